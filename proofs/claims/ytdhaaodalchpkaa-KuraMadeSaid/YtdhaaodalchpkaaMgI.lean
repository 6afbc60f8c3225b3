import Derived.Test.YtdhaaodalchpkaaMgA
import Derived.Test.YtdhaaodalchpkaaWrd
import Derived.Sort.Grow
import Derived.Deep.RegionHeld3
import Derived.Laws.AppendOwnNone
import Derived.Deep.AppendLies
import Derived.Test.YtdhaaodalchpkaaMgB
/-
  The order of edges as the program asks it: cmp.Compare, cmp.Or, compare; as the document does: Less.
-/
namespace Go.Proofs.Ytdhaaodalchpkaa
open Go.RowKit Go.Sort

/-- An edge as a value. -/
def edgeVal (e : Int × Int) : Value := .agg #[.int .i64 e.1, .int .i64 e.2]

theorem new2 (W : World) (k : Nat) (hk : W.heap.size = k) (x y : Value) (t : TypeId) : (W.alloc (.cells #[x, y] t)).cell? ⟨k, 0, none⟩ = some x ∧ (W.alloc (.cells #[x, y] t)).cell? ⟨k, 1, none⟩ = some y := by
  subst hk
  constructor <;> simp

theorem new2d (W : World) (k : Nat) (hk : W.heap.size = k) (x y : Value) (t : TypeId) : (W.alloc (.cells #[x, y] t)).drew.cell? ⟨k, 0, none⟩ = some x ∧ (W.alloc (.cells #[x, y] t)).drew.cell? ⟨k, 1, none⟩ = some y := new2 W k hk x y t

theorem size2 (W : World) (x y : Obj) : ((W.alloc x).alloc y).heap.size = W.heap.size + 1 + 1 := by simp

def Si.cmpInt (x y : Int) : Int := if x < y then -1 else if y < x then 1 else 0

set_option maxHeartbeats 400000 in
theorem cmpInt_any (x y : Int) (w : World) : Calls Try.prog 72 #[.int .i64 x, .int .i64 y] w fun e w' => e = .returned (.int .i64 (Si.cmpInt x y)) ∧ w' = w := by
  unfold Si.cmpInt
  by_cases h1 : x < y
  · rw [if_pos h1]
    go_enter Try.func72, Try.ntmps72
    go_wp2
    go_ret
    exact ⟨rfl, rfl⟩
  · rw [if_neg h1]
    by_cases h2 : y < x
    · rw [if_pos h2]
      go_enter Try.func72, Try.ntmps72
      go_wp2
      go_ret
      exact ⟨rfl, rfl⟩
    · rw [if_neg h2]
      go_enter Try.func72, Try.ntmps72
      go_wp2
      go_ret
      exact ⟨rfl, rfl⟩

def Si.orInt (p q : Int) : Int := if p ≠ 0 then p else q

theorem cf_or (a b : Int × Int) : Si.cf a b = Si.orInt (Si.cmpInt a.1 b.1) (Si.cmpInt a.2 b.2) := by
  unfold Si.cf Si.cmpInt Si.orInt
  by_cases h1 : a.1 < b.1
  · simp [h1]
  · by_cases h2 : b.1 < a.1
    · simp [h1, h2]
    · simp [h1, h2]

set_option maxHeartbeats 1000000 in
theorem or_any (p q : Int) (W : World) (b : Nat) (h0 : W.cell? ⟨b, 0, none⟩ = some (.int .i64 p)) (h1 : W.cell? ⟨b, 1, none⟩ = some (.int .i64 q)) : Calls Try.prog 71 #[.slice (some ⟨b, 0, none⟩) 2 2] W fun e w' => e = .returned (.int .i64 (Si.orInt p q)) ∧ w' = W := by
  unfold Si.orInt
  by_cases hp : p = 0
  · subst hp
    rw [if_neg (by simp)]
    by_cases hq : q = 0
    · subst hq
      go_enter Try.func71, Try.ntmps71
      go_wp2
      refine wp_loop_rounds 3 ?_
      rw [rounds_succ]
      go_wp2
      rw [rounds_succ]
      go_wp2
      rw [rounds_succ]
      go_wp2
      go_ret
      exact ⟨rfl, rfl⟩
    · go_enter Try.func71, Try.ntmps71
      go_wp2
      refine wp_loop_rounds 3 ?_
      rw [rounds_succ]
      go_wp2
      rw [rounds_succ]
      go_wp2
      go_ret
      exact ⟨rfl, rfl⟩
  · rw [if_pos hp]
    go_enter Try.func71, Try.ntmps71
    go_wp2
    refine wp_loop_rounds 3 ?_
    rw [rounds_succ]
    go_wp2
    go_ret
    exact ⟨rfl, rfl⟩

set_option maxRecDepth 100000 in
set_option maxHeartbeats 4000000 in
theorem compare_any (a b : Int × Int) (w : World) : Calls Try.prog 67 #[edgeVal a, edgeVal b] w fun e w' => e = .returned (.int .i64 (Si.cf a b)) ∧ ∃ q os', w' = grow (w.drewN q) os' := by
  rw [cf_or]
  unfold edgeVal
  go_enter Try.func67, Try.ntmps67
  go_wp2
  go_region_held3 (fun w' => w'.cell? ⟨w.heap.size, 0, none⟩ = some (.int .i64 a.1) ∧ w'.cell? ⟨w.heap.size, 1, none⟩ = some (.int .i64 a.2) ∧ w'.cell? ⟨w.heap.size + 1, 0, none⟩ = some (.int .i64 b.1) ∧ w'.cell? ⟨w.heap.size + 1, 1, none⟩ = some (.int .i64 b.2))
    (go_keep)
    (first
      | (go_at_call 72; refine (cmpInt_any _ _ _).mono ?_; rintro e w' ⟨rfl, rfl⟩)
      | (go_at_call 71; refine (or_any (Si.cmpInt a.1 b.1) (Si.cmpInt a.2 b.2) _ _ (new2d _ _ (size2 _ _ _) _ _ _).1 (new2d _ _ (size2 _ _ _) _ _ _).2).mono ?_; rintro e w' ⟨rfl, rfl⟩))
  go_wp2
  go_ret
  exact ⟨rfl, 1, _, by rw [alloc_eq_grow, alloc_eq_grow, grow_grow, alloc_eq_grow, grow_grow]; rfl⟩

theorem grow_below (w : World) (q : Nat) (os : Array Obj) : Below w.heap.size w (grow (w.drewN q) os) := by
  refine ⟨rfl, rfl, rfl, by simp [grow], fun k hk => ?_⟩
  simp [grow, Array.getElem?_append_left hk]

end Go.Proofs.Ytdhaaodalchpkaa

/-
  Edges and graphs in memory.
-/
namespace Go.Proofs.Ytdhaaodalchpkaa
open Go.RowKit

/-- The edges es lie at ao. -/
def EdgesAt (w : World) (ao : Option Addr) (es : List (Int × Int)) : Prop :=
  ∀ (j : Nat) (p : Int × Int), es[j]? = some p → ∃ b o : Nat, ao = some ⟨b, o, none⟩ ∧ w.cell? ⟨b, o + j * 2, none⟩ = some (.int .i64 p.1) ∧ w.cell? ⟨b, o + j * 2 + 1, none⟩ = some (.int .i64 p.2)

theorem EdgesAt.later {w w' : World} {ao : Option Addr} {es : List (Int × Int)} (h : EdgesAt w ao es) (hb : Below w.heap.size w w') : EdgesAt w' ao es := fun j p hj => by
  obtain ⟨b, o, e, h0, h1⟩ := h j p hj
  exact ⟨b, o, e, (hb.cell (p := ⟨b, o + j * 2, none⟩) (block_lt_of_cell h0)).trans h0, (hb.cell (p := ⟨b, o + j * 2 + 1, none⟩) (block_lt_of_cell h1)).trans h1⟩

theorem EdgesAt.nil (w : World) (ao : Option Addr) : EdgesAt w ao [] := fun j p hj => by simp at hj

/-- A graph as a value. -/
def graphVal (n : Int) (ao : Option Addr) (len cap : Nat) : Value := .agg #[.int .i64 n, .slice ao len cap]

end Go.Proofs.Ytdhaaodalchpkaa

/-
  Numbers of 64 bits; how many cells an edge and an int take.
-/
namespace Go.Proofs.Ytdhaaodalchpkaa
open Go.RowKit

theorem cellsEdge : Try.prog.cellsOf 57 = 2 := by kernel_rfl
theorem cellsIntK : Try.prog.cellsOf 3 = 1 := by kernel_rfl
/-- Both numbers are of 64 bits. -/
def In64 (e : Int × Int) : Prop := (-9223372036854775808 ≤ e.1 ∧ e.1 ≤ 9223372036854775807) ∧ -9223372036854775808 ≤ e.2 ∧ e.2 ≤ 9223372036854775807
theorem wf64 {x : Int} (h : -9223372036854775808 ≤ x ∧ x ≤ 9223372036854775807) : (Lit.int .i64 x).wf = true := WalkArith.wf_i64 (by omega)

end Go.Proofs.Ytdhaaodalchpkaa

/-
  Lists of edges in memory that a call makes itself.
-/
namespace Go.Proofs.Ytdhaaodalchpkaa
open Go.RowKit

theorem Try.infoEdge : (Try.prog.info? 57).map (fun i => (i.zero, i.size, i.bytes)) = some (some (.agg #[.int .i64 0, .int .i64 0]), 2, 16) := by kernel_rfl

def flatE (ps : List (Int × Int)) : List Value := ps.flatMap fun p => [.int .i64 p.1, .int .i64 p.2]

theorem flatE_snoc (ps : List (Int × Int)) (p : Int × Int) : flatE (ps ++ [p]) = flatE ps ++ [.int .i64 p.1, .int .i64 p.2] := by simp [flatE]

theorem flatE_length : ∀ ps : List (Int × Int), (flatE ps).length = ps.length * 2
  | [] => rfl
  | p :: ps => by
    have := flatE_length ps
    simp [flatE] at this ⊢
    omega

theorem flatE_at : ∀ (ps : List (Int × Int)) (j : Nat) (p : Int × Int), ps[j]? = some p → (flatE ps)[j * 2]? = some (.int .i64 p.1) ∧ (flatE ps)[j * 2 + 1]? = some (.int .i64 p.2)
  | [], j, p, h => by simp at h
  | q :: ps, 0, p, h => by
    simp at h
    subst h
    simp [flatE]
  | q :: ps, j + 1, p, h => by
    simp at h
    have := flatE_at ps j p h
    have e : (j + 1) * 2 = j * 2 + 1 + 1 := by omega
    rw [e]
    simpa [flatE] using this

theorem addrE (g j : Nat) : ((⟨g, 0, none⟩ : Addr).add j) = ⟨g, j, none⟩ := by
  by_cases h : j = 0
  · simp [Addr.add, h]
  · simp [Addr.add, h]

/-- v is a slice of the edges es, laid since block B. -/
def OwnE (w : World) (B : Nat) (v : Value) (es : List (Int × Int)) : Prop := w.ownsRow B 57 2 v es.length (flatE es)

theorem OwnE.form {w : World} {B : Nat} {v : Value} {es : List (Int × Int)} (h : OwnE w B v es) : ∃ ao cap, v = .slice ao es.length cap ∧ es.length ≤ cap ∧ cap ≤ maxLen ∧ EdgesAt w ao es ∧ (∀ x, ao = some x → B ≤ x.block ∧ x.block < w.heap.size) := by
  have h' := h
  unfold OwnE at h'
  rcases h.2 with ⟨rfl, h0⟩ | ⟨g, cap, cur, rfl, hg, hh, hc, hm, _⟩
  · refine ⟨none, 0, by rw [h0], by omega, Nat.zero_le _, fun j p hj => ?_, fun x h => by cases h⟩
    rw [List.length_eq_zero_iff.1 h0] at hj
    simp at hj
  · refine ⟨_, cap, rfl, hc, hm, fun j p hj => ⟨g, 0, rfl, ?_⟩, fun x h => by cases h; exact ⟨hg, lt_of_block hh⟩⟩
    have hcl := World.ownsRow.cells h' (g := g) rfl
    simp only [addrE] at hcl
    obtain ⟨h0, h1⟩ := flatE_at es j p hj
    rw [Nat.zero_add]
    exact ⟨hcl _ _ h0, hcl _ _ h1⟩

theorem OwnE.below {w w' : World} {B A : Nat} {v : Value} {ps : List (Int × Int)} (h : OwnE w B v ps) (hb : Below A w w') (hA : w.heap.size ≤ A) : OwnE w' B v ps := by
  refine ⟨h.1, ?_⟩
  rcases h.2 with h | ⟨g, cap, cur, e, hgB, hh, hr⟩
  · exact .inl h
  · exact .inr ⟨g, cap, cur, e, hgB, (hb.block g (by have := lt_of_block hh; omega)).trans hh, hr⟩

theorem OwnE.alloc {w : World} {B : Nat} {v : Value} {ps : List (Int × Int)} (h : OwnE w B v ps) (o : Obj) : OwnE (w.alloc o) B v ps := World.ownsRow.alloc h o

theorem OwnE.some {w : World} {B : Nat} {v : Value} {es : List (Int × Int)} (h : OwnE w B v es) (hn : v ≠ .slice none 0 0) : ∃ g cap, v = .slice (some ⟨g, 0, none⟩) es.length cap := by
  rcases h.2 with ⟨rfl, _⟩ | ⟨g, cap, cur, rfl, _⟩
  · exact absurd rfl hn
  · exact ⟨g, cap, rfl⟩

theorem OwnE.far {w : World} {B b : Nat} {v : Value} {ps : List (Int × Int)} (h : OwnE w B v ps) (hb : b < B) : v.ownBlock ≠ Option.some b := by
  obtain ⟨ao, cap, rfl, _, _, _, hx⟩ := h.form
  cases ao with
  | none => simp [Value.ownBlock]
  | some x => have := hx x rfl; simp [Value.ownBlock]; omega

/-- Stores into another block leave it; it may be said of an earlier block. -/
theorem OwnE.set2 {w : World} {B A b : Nat} {v : Value} {ps : List (Int × Int)} (h : OwnE w B v ps) (hA : A ≤ b ∧ b < B) (x y : Value) : OwnE ((w.setCell ⟨b, 0, none⟩ x).setCell ⟨b, 1, none⟩ y) A v ps := by
  refine ⟨h.1, ?_⟩
  rcases h.2 with h | ⟨g, cap, cur, e, hgB, hh, hr⟩
  · exact .inl h
  · refine .inr ⟨g, cap, cur, e, by omega, ?_, hr⟩
    rw [heap_setCell_other _ ⟨b, 1, none⟩ g y (by simp; omega), heap_setCell_other _ ⟨b, 0, none⟩ g x (by simp; omega)]
    exact hh

theorem OwnE.lower {w : World} {B A : Nat} {v : Value} {ps : List (Int × Int)} (h : OwnE w B v ps) (hA : A ≤ B) : OwnE w A v ps := by
  refine ⟨h.1, ?_⟩
  rcases h.2 with h | ⟨g, cap, cur, e, hgB, hh, hr⟩
  · exact .inl h
  · exact .inr ⟨g, cap, cur, e, by omega, hh, hr⟩

theorem OwnE.nil (w : World) (B : Nat) : OwnE w B (.slice none 0 0) [] := World.ownsRow_nil _ _ _ _

theorem new_two_e (W : World) (k : Nat) (hk : W.heap.size = k) (a b : Value) (t : TypeId) : ∀ j u, [a, b][j]? = some u → (W.alloc (.cells #[a, b] t)).cell? ((⟨k, 0, none⟩ : Addr).add j) = some u := by
  subst hk
  exact World.news_of_block (cs := #[a, b]) (t := t) (fr := (0, 0)) (heap_alloc_new W _)

end Go.Proofs.Ytdhaaodalchpkaa

/-
  Edges and Booleans in blocks of their own.
-/
namespace Go.Proofs.Ytdhaaodalchpkaa
open Go.RowKit

/-- Block g holds just these edges. -/
def EdsBlk (w : World) (g : Nat) (l : List (Int × Int)) : Prop := w.heap[g]? = some (.cells (flatE l).toArray 57 (0, 0))
section
variable {w w' : World} {g : Nat} {l : List (Int × Int)}
theorem EdsBlk.lt (h : EdsBlk w g l) : g < w.heap.size := lt_of_block h
theorem EdsBlk.later (h : EdsBlk w g l) (hb : Below w.heap.size w w') : EdsBlk w' g l := (hb.block g h.lt).trans h
theorem EdsBlk.own (h : EdsBlk w g l) {B : Nat} (hB : B ≤ g) (hm : l.length ≤ maxLen) : OwnE w B (.slice (some ⟨g, 0, none⟩) l.length l.length) l :=
  ⟨flatE_length l, .inr ⟨g, l.length, (flatE l).toArray, rfl, hB, h, Nat.le_refl _, hm, by simp [flatE_length], by
    rw [List.toList_toArray]
    exact List.take_of_length_le (by rw [flatE_length]; exact Nat.le_refl _)⟩⟩
theorem EdsBlk.cells (h : EdsBlk w g l) {i : Nat} {p : Int × Int} (hp : l[i]? = some p) : w.cell? ⟨g, i * 2, none⟩ = some (.int .i64 p.1) ∧ w.cell? ⟨g, i * 2 + 1, none⟩ = some (.int .i64 p.2) := by
  obtain ⟨h0, h1⟩ := flatE_at l i p hp
  unfold EdsBlk at h
  simp [World.cell?, h, h0, h1]
theorem EdsBlk.free (h : EdsBlk w g l) (i : Nat) : w.frozen? ⟨g, i, none⟩ = false := by
  unfold EdsBlk at h
  simp [World.frozen?, h]
theorem flatE_setB : ∀ (ps : List (Int × Int)) (a : Nat) (q : Int × Int), flatE (ps.set a q) = ((flatE ps).set (a * 2) (.int .i64 q.1)).set (a * 2 + 1) (.int .i64 q.2)
  | [], a, q => by simp [flatE]
  | p :: ps, 0, q => by simp [flatE]
  | p :: ps, a + 1, q => by
    have ih := flatE_setB ps a q
    have e : (a + 1) * 2 = a * 2 + 1 + 1 := by omega
    rw [e]
    simpa [flatE] using ih
theorem EdsBlk.set (h : EdsBlk w g l) (i : Nat) (x y : Int) : EdsBlk ((w.setCell ⟨g, i * 2, none⟩ (.int .i64 x)).setCell ⟨g, i * 2 + 1, none⟩ (.int .i64 y)) g (l.set i (x, y)) := by
  unfold EdsBlk
  have h1 := heap_setCell_same w g (i * 2) _ _ (.int .i64 x) h
  have h2 := heap_setCell_same _ g (i * 2 + 1) _ _ (.int .i64 y) h1
  rw [h2, flatE_setB]
  simp
theorem EdsBlk.one (h : EdsBlk w g l) (i : Nat) (x : Int) {q : Int × Int} (hq : l[i]? = some q) : (w.setCell ⟨g, i * 2, none⟩ (.int .i64 x)).cell? ⟨g, i * 2 + 1, none⟩ = some (.int .i64 q.2) ∧ (w.setCell ⟨g, i * 2, none⟩ (.int .i64 x)).frozen? ⟨g, i * 2 + 1, none⟩ = false := by
  have h1 := heap_setCell_same w g (i * 2) _ _ (.int .i64 x) h
  obtain ⟨_, h0⟩ := flatE_at l i q hq
  constructor
  · simp [World.cell?, h1, h0]
  · simp [World.frozen?, h1]
theorem EdsBlk.at (h : EdsBlk w g l) : EdgesAt w (some ⟨g, 0, none⟩) l := fun j p hj => ⟨g, 0, rfl, by rw [Nat.zero_add]; exact (h.cells hj).1, by rw [Nat.zero_add]; exact (h.cells hj).2⟩
theorem EdsBlk.alloc (h : EdsBlk w g l) (o : Obj) : EdsBlk (w.alloc o) g l := (Below.heap_alloc w o g h.lt).trans h
theorem eds_of_row {B n : Nat} (h : w.ownsRow B 57 2 (.slice (some ⟨g, 0, none⟩) n n) n (flatE l)) : EdsBlk w g l := by
  rcases h.2 with ⟨h, _⟩ | ⟨g', cap, cur, e, _, hh, _, _, hs, ht⟩
  · cases h
  · cases e
    rw [List.take_of_length_le (by simp; omega)] at ht
    unfold EdsBlk
    rw [hh, ← ht]
end
theorem flatE_zerosB : ∀ n : Nat, flatE (List.replicate n ((0 : Int), (0 : Int))) = List.replicate (n * 2) (.int .i64 0)
  | 0 => rfl
  | n + 1 => by
    have := flatE_zerosB n
    rw [show (n + 1) * 2 = n * 2 + 1 + 1 by omega, List.replicate_succ, List.replicate_succ, List.replicate_succ, ← this]
    rfl
theorem made_eds (n : Nat) : (madeCells #[.int .i64 0, .int .i64 0] (n * 2)).toList = flatE (List.replicate n ((0 : Int), (0 : Int))) := by
  rw [flatE_zerosB]
  apply List.ext_getElem?
  intro j
  by_cases hj : j < n * 2
  · have : j % 2 = 0 ∨ j % 2 = 1 := by omega
    rcases this with e | e <;> simp [madeCells, hj, e]
  · simp [madeCells, hj]


theorem Try.infoBoolE : (Try.prog.info? 4).map (fun i => (i.zero, i.size, i.bytes)) = some (some (.bool false), 1, 1) := by kernel_rfl

/-- Block g holds just these Booleans. -/
def BlsBlk (w : World) (g : Nat) (l : List Bool) : Prop := w.heap[g]? = some (.cells (l.map Value.bool).toArray 4 (0, 0))

section
variable {w w' : World} {g : Nat} {l : List Bool}
theorem BlsBlk.lt (h : BlsBlk w g l) : g < w.heap.size := lt_of_block h
theorem BlsBlk.cell (h : BlsBlk w g l) {i : Nat} {x : Bool} (hx : l[i]? = some x) : w.cell? ⟨g, i, none⟩ = some (.bool x) := by
  unfold BlsBlk at h
  simp [World.cell?, h, hx]
theorem BlsBlk.free (h : BlsBlk w g l) (i : Nat) : w.frozen? ⟨g, i, none⟩ = false := by
  unfold BlsBlk at h
  simp [World.frozen?, h]
theorem BlsBlk.set (h : BlsBlk w g l) (i : Nat) (x : Bool) : BlsBlk (w.setCell ⟨g, i, none⟩ (.bool x)) g (l.set i x) := by
  unfold BlsBlk at h ⊢
  rw [heap_setCell_same w g i _ _ _ h]
  simp [List.map_set]
theorem BlsBlk.later (h : BlsBlk w g l) (hb : Below w.heap.size w w') : BlsBlk w' g l := (hb.block g h.lt).trans h
theorem bls_of_row {B n : Nat} (h : w.ownsRow B 4 1 (.slice (some ⟨g, 0, none⟩) n n) n (l.map Value.bool)) : BlsBlk w g l := by
  rcases h.2 with ⟨h, _⟩ | ⟨g', cap, cur, e, _, hh, _, _, hs, ht⟩
  · cases h
  · cases e
    rw [List.take_of_length_le (by simp; omega)] at ht
    unfold BlsBlk
    rw [hh, ← ht]
end
theorem made_bls (n : Nat) : (madeCells #[.bool false] n).toList = (List.replicate n false).map Value.bool := by
  rw [toList_madeCells_one, List.map_replicate]

end Go.Proofs.Ytdhaaodalchpkaa
