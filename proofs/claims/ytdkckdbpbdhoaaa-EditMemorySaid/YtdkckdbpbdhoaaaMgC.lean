import Derived.Test.YtdkckdbpbdhoaaaMgB
import Derived.Maps.AppendAt
import Derived.Test.YtdkckdbpbdhoaaaSiOwn
import Derived.ArgAppend
import Derived.Deep.DeepAppendRoom
/-
  A list of lists of ints, each in memory of its own.
-/
namespace Go.Proofs.Ytdkckdbpbdhoaaa
open Go.RowKit

theorem Try.infoRow : (Try.prog.info? 40).map (fun i => (i.zero, i.size, i.bytes)) = some (some (.slice none 0 0), 1, 24) := by kernel_rfl

theorem own_succ {W : World} {base : Nat} {e : TypeId} {size : Nat} {v : Value} {k : Nat} {xs : List Value} (h : W.ownsRow base e size v (k + 1) xs) : ∃ g cap, v = .slice (some ⟨g, 0, none⟩) (k + 1) cap := by
  rcases h.2 with ⟨_, h0⟩ | ⟨g, cap, _, rfl, _⟩
  · omega
  · exact ⟨g, cap, rfl⟩

/-- v is a list of the slices vs, in memory of its own laid since block B; each of them a list of its own, ls. -/
structure RowsZ (w : World) (B : Nat) (v : Value) (vs : List Value) (ls : List (List Int)) : Prop where
  len : vs.length = ls.length
  outer : w.ownsRow B 40 1 v ls.length vs
  row : ∀ (u : Nat) (x : Value) (l : List Int), vs[u]? = some x → ls[u]? = some l → OwnZ w B x l
  apart : ∀ (u u' : Nat) (x x' : Value) (b : Nat), u ≠ u' → vs[u]? = some x → vs[u']? = some x' → x.ownBlock = some b → x'.ownBlock ≠ some b
  far : ∀ (u : Nat) (x : Value) (b : Nat), vs[u]? = some x → x.ownBlock = some b → v.ownBlock ≠ some b

section
variable {w w' : World} {B : Nat} {v : Value} {vs : List Value} {ls : List (List Int)}
theorem RowsZ.at (h : RowsZ w B v vs ls) {u : Nat} {x : Value} (hx : vs[u]? = some x) : ∃ l, ls[u]? = some l := ⟨_, List.getElem?_eq_getElem (by rw [← h.len]; exact (List.getElem?_eq_some_iff.1 hx).1)⟩
theorem RowsZ.at' (h : RowsZ w B v vs ls) {u : Nat} {l : List Int} (hl : ls[u]? = some l) : ∃ x, vs[u]? = some x := ⟨_, List.getElem?_eq_getElem (by rw [h.len]; exact (List.getElem?_eq_some_iff.1 hl).1)⟩
theorem row_same {e : TypeId} {s n : Nat} {xs : List Value} (h : w.ownsRow B e s v n xs) (hb : ∀ g, v.ownBlock = some g → B ≤ g → g < w.heap.size → w'.heap[g]? = w.heap[g]?) : w'.ownsRow B e s v n xs := by
  refine ⟨h.1, ?_⟩
  rcases h.2 with h | ⟨g, cap, cur, e1, hgB, hh, hr⟩
  · exact .inl h
  · exact .inr ⟨g, cap, cur, e1, hgB, (hb g (by rw [e1]; rfl) hgB (lt_of_block hh)).trans hh, hr⟩
theorem RowsZ.same (h : RowsZ w B v vs ls) (hb : ∀ g, B ≤ g → g < w.heap.size → w'.heap[g]? = w.heap[g]?) : RowsZ w' B v vs ls :=
  ⟨h.len, row_same h.outer fun g _ h1 h2 => hb g h1 h2, fun u x l hx hl => row_same (h.row u x l hx hl) fun g _ h1 h2 => hb g h1 h2, h.apart, h.far⟩
theorem RowsZ.later (h : RowsZ w B v vs ls) (hb : Below w.heap.size w w') : RowsZ w' B v vs ls := h.same fun g _ hg => hb.block g hg
theorem RowsZ.nil (w : World) (B : Nat) : RowsZ w B (.slice none 0 0) [] [] := ⟨rfl, World.ownsRow_nil _ _ _ _, fun u x l hx => by simp at hx, fun u u' x x' b _ hx => by simp at hx, fun u x b hx => by simp at hx⟩

/-- What lies in the blocks of the rows that a step leaves alone. -/
theorem RowsZ.lower {B' : Nat} (h : RowsZ w B v vs ls) (hB : B' ≤ B) : RowsZ w B' v vs ls := by
  refine ⟨h.len, ⟨h.outer.1, ?_⟩, fun u x l hx hl => (h.row u x l hx hl).lower hB, h.apart, h.far⟩
  rcases h.outer.2 with h | ⟨g, cap, cur, e1, hgB, hr⟩
  · exact .inl h
  · exact .inr ⟨g, cap, cur, e1, Nat.le_trans hB hgB, hr⟩

/-- One list more at the end: x, a list l of its own that is none of those that are there. W: the world in which the row is appended to (x has been put into a cell of its own there). -/
theorem RowsZ.grow {W w1 : World} {x v' : Value} {l : List Int} (h : RowsZ W B v vs ls) (hx : OwnZ W B x l) (hx1 : ∀ (u : Nat) (y : Value) (b : Nat), vs[u]? = some y → y.ownBlock = some b → x.ownBlock ≠ some b) (hx2 : ∀ b, v.ownBlock = some b → x.ownBlock ≠ some b)
    {tmp : Obj} (hown : w1.ownsRow B 40 1 v' (ls.length + 1) (vs ++ [x])) (hgrow : (W.alloc tmp).grownBy w1 v.ownBlock) (hat : v'.ownBlock = v.ownBlock ∨ v'.ownBlock = some (W.heap.size + 1)) :
    RowsZ w1 B v' (vs ++ [x]) (ls ++ [l]) := by
  have hsame : ∀ g, v.ownBlock ≠ some g → g < W.heap.size → w1.heap[g]? = W.heap[g]? := fun g hne hg => by
    rw [hgrow.block g (by rw [World.size_alloc]; omega) (fun e => hne e.symm)]
    exact Below.heap_alloc W tmp g hg
  have hold : ∀ u y k, vs[u]? = some y → ls[u]? = some k → OwnZ w1 B y k := fun u y k hy hk => (h.row u y k hy hk).same fun g hg hl => hsame g (h.far u y g hy hg) hl
  have hxx : OwnZ w1 B x l := hx.same fun g hg hl => hsame g (fun e => hx2 g e hg) hl
  have hlt : ∀ y k b, OwnZ W B y k → y.ownBlock = some b → b < W.heap.size := fun y k b ho hb => (World.ownsRow.lt ho b hb).2
  have hlast : ∀ u y, (vs ++ [x])[u]? = some y → (u < vs.length ∧ vs[u]? = some y) ∨ (u = vs.length ∧ y = x) := fun u y hy => by
    by_cases hu : u < vs.length
    · rw [List.getElem?_append_left hu] at hy
      exact .inl ⟨hu, hy⟩
    · rw [List.getElem?_append_right (by omega)] at hy
      have hl := (List.getElem?_eq_some_iff.1 hy).1
      have e : u - vs.length = 0 := by simp at hl; omega
      rw [e] at hy
      exact .inr ⟨by omega, (Option.some.inj hy).symm⟩
  refine ⟨by simp [h.len], by rw [List.length_append]; exact hown, fun u y k hy hk => ?_, fun u u' y y' b hne hy hy' hb => ?_, fun u y b hy hb => ?_⟩
  · rcases hlast u y hy with ⟨hu, h1⟩ | ⟨hu, rfl⟩
    · rw [List.getElem?_append_left (by rw [← h.len]; exact hu)] at hk
      exact hold u y k h1 hk
    · rw [hu, h.len, List.getElem?_append_right (Nat.le_refl _), Nat.sub_self] at hk
      obtain rfl := Option.some.inj hk
      exact hxx
  · rcases hlast u y hy with ⟨hu, h1⟩ | ⟨hu, rfl⟩ <;> rcases hlast u' y' hy' with ⟨hu', h2⟩ | ⟨hu', rfl⟩
    · exact h.apart u u' y y' b hne h1 h2 hb
    · exact hx1 u y b h1 hb
    · intro hc
      exact hx1 u' y' b h2 hc hb
    · omega
  · intro hc
    rcases hat with e | e
    · rw [e] at hc
      rcases hlast u y hy with ⟨hu, h1⟩ | ⟨hu, rfl⟩
      · exact h.far u y b h1 hb hc
      · exact hx2 b hc hb
    · rw [e] at hc
      have hbs := Option.some.inj hc
      rcases hlast u y hy with ⟨hu, h1⟩ | ⟨hu, rfl⟩
      · obtain ⟨k, hk⟩ := h.at h1
        have := hlt y k b (h.row u y k h1 hk) hb
        omega
      · have := hlt y l b hx hb
        omega

/-- List u is appended to. -/
theorem RowsZ.put {W w1 : World} {u g c : Nat} {x x' : Value} {l l' : List Int} (h : RowsZ W B (.slice (some ⟨g, 0, none⟩) ls.length c) vs ls) (hx : vs[u]? = some x) (hl : ls[u]? = some l)
    {tmp : Obj} (hown : OwnZ w1 B x' l') (hgrow : (W.alloc tmp).grownBy w1 x.ownBlock) (hat : x'.ownBlock = x.ownBlock ∨ x'.ownBlock = some (W.heap.size + 1)) :
    w1.cell? ⟨g, u, none⟩ = some x ∧ w1.frozen? ⟨g, u, none⟩ = false ∧ RowsZ (w1.setCell ⟨g, u, none⟩ x') B (.slice (some ⟨g, 0, none⟩) ls.length c) (vs.set u x') (ls.set u l') ∧ Below B W (w1.setCell ⟨g, u, none⟩ x') := by
  have hul := (List.getElem?_eq_some_iff.1 hx).1
  have hfx : x.ownBlock ≠ some g := fun e => h.far u x g hx e rfl
  obtain ⟨hgB, hgl⟩ := World.ownsRow.lt h.outer g rfl
  have hsz : W.heap.size ≤ w1.heap.size := by
    have := hgrow.size
    rw [World.size_alloc] at this
    omega
  have hsame : ∀ b, x.ownBlock ≠ some b → b < W.heap.size → w1.heap[b]? = W.heap[b]? := fun b hne hb => by
    rw [hgrow.block b (by rw [World.size_alloc]; omega) (fun e => hne e.symm)]
    exact Below.heap_alloc W tmp b hb
  have ho1 : w1.ownsRow B 40 1 (.slice (some ⟨g, 0, none⟩) ls.length c) ls.length vs := row_same h.outer fun b hb _ hl => by
    obtain rfl : g = b := by simpa [Value.ownBlock] using hb
    exact hsame g hfx hl
  have hst := ho1.stored u x'
  have hc := World.ownsRow.cells ho1 (g := g) rfl u x hx
  have ea : ((⟨g, 0, none⟩ : Addr).add u) = ⟨g, u, none⟩ := by
    by_cases h0 : u = 0 <;> simp [Addr.add, h0]
  rw [ea] at hc
  have hng : x'.ownBlock ≠ some g := by
    rcases hat with e | e
    · rw [e]; exact hfx
    · rw [e]
      intro e2
      have := Option.some.inj e2
      omega
  have hset : ∀ b, b ≠ g → (w1.setCell ⟨g, u, none⟩ x').heap[b]? = w1.heap[b]? := fun b hb => heap_setCell_other w1 ⟨g, u, none⟩ b x' hb
  have hxB : ∀ b, x.ownBlock = some b → B ≤ b := fun b hb => (World.ownsRow.lt (h.row u x l hx hl) b hb).1
  refine ⟨hc, ho1.frozenAt u, ⟨by simp [h.len], by rw [List.length_set]; exact hst.1, fun a y k ha hk => ?_, fun a a' y y' b hne ha ha' hb => ?_, fun a y b ha hb => ?_⟩, ?_⟩
  · rw [List.getElem?_set] at ha hk
    by_cases e : u = a
    · subst e
      rw [if_pos rfl, if_pos hul] at ha
      rw [if_pos rfl, if_pos (by rw [← h.len]; exact hul)] at hk
      cases ha
      cases hk
      exact hown.same fun b hb _ => hset b (fun e => hng (by rw [hb, e]))
    · rw [if_neg e] at ha hk
      refine (h.row a y k ha hk).same fun b hb hl => ?_
      rw [hset b (fun e => h.far a y b ha hb (by rw [e]; rfl)), hsame b (fun e2 => h.apart u a x y b e hx ha e2 hb) hl]
  · rw [List.getElem?_set] at ha ha'
    have hnew : ∀ (z : Nat) (q : Value) (b : Nat), u ≠ z → vs[z]? = some q → x'.ownBlock = some b → q.ownBlock ≠ some b := fun z q b hz hq hb => by
      rcases hat with e2 | e2
      · rw [e2] at hb
        exact h.apart u z x q b hz hx hq hb
      · rw [e2] at hb
        have hbs := Option.some.inj hb
        intro hc
        obtain ⟨k, hk⟩ := h.at hq
        have := (World.ownsRow.lt (h.row z q k hq hk) b hc).2
        omega
    by_cases e : u = a
    · subst e
      rw [if_pos rfl, if_pos hul] at ha
      cases ha
      rw [if_neg hne] at ha'
      exact hnew a' y' b hne ha' hb
    · rw [if_neg e] at ha
      by_cases e' : u = a'
      · subst e'
        rw [if_pos rfl, if_pos hul] at ha'
        cases ha'
        intro hc
        exact hnew a y b (Ne.symm hne) ha hc hb
      · rw [if_neg e'] at ha'
        exact h.apart a a' y y' b hne ha ha' hb
  · rw [List.getElem?_set] at ha
    by_cases e : u = a
    · subst e
      rw [if_pos rfl, if_pos hul] at ha
      cases ha
      intro hc
      obtain rfl : g = b := by simpa [Value.ownBlock] using hc
      exact hng hb
    · rw [if_neg e] at ha
      exact h.far a y b ha hb
  · refine ⟨hgrow.os, hgrow.tape, hgrow.output, by simpa using hsz, fun k hk => ?_⟩
    rw [hset k (by omega), hsame k (fun e => by have := hxB k e; omega) (by omega)]
end

end Go.Proofs.Ytdkckdbpbdhoaaa

/-
  Edges and Booleans in blocks of their own.
-/
namespace Go.Proofs.Ytdkckdbpbdhoaaa
open Go.RowKit

/-- Block g holds just these edges. -/
def EdsBlk (w : World) (g : Nat) (l : List (Int × Int)) : Prop := w.heap[g]? = some (.cells (flatE l).toArray 26 (0, 0))
section
variable {w w' : World} {g : Nat} {l : List (Int × Int)}
theorem EdsBlk.lt (h : EdsBlk w g l) : g < w.heap.size := lt_of_block h
theorem EdsBlk.later (h : EdsBlk w g l) (hb : Below w.heap.size w w') : EdsBlk w' g l := (hb.block g h.lt).trans h
theorem EdsBlk.own (h : EdsBlk w g l) {B : Nat} (hB : B ≤ g) (hm : l.length ≤ maxLen) : OwnE w B (.slice (some ⟨g, 0, none⟩) l.length l.length) l :=
  ⟨flatE_length l, .inr ⟨g, l.length, (flatE l).toArray, rfl, hB, h, Nat.le_refl _, hm, by simp [flatE_length], by
    rw [List.toList_toArray]
    exact List.take_of_length_le (by rw [flatE_length]; exact Nat.le_refl _)⟩⟩
theorem EdsBlk.cells (h : EdsBlk w g l) {i : Nat} {p : Int × Int} (hp : l[i]? = some p) : w.cell? ⟨g, i * 2, none⟩ = some (.int .i64 p.1) ∧ w.cell? ⟨g, i * 2 + 1, none⟩ = some (.int .i64 p.2) := by
  obtain ⟨h0, h1⟩ := flatE_at l i p hp
  unfold EdsBlk at h
  simp [World.cell?, h, h0, h1]
theorem EdsBlk.free (h : EdsBlk w g l) (i : Nat) : w.frozen? ⟨g, i, none⟩ = false := by
  unfold EdsBlk at h
  simp [World.frozen?, h]
theorem flatE_setB : ∀ (ps : List (Int × Int)) (a : Nat) (q : Int × Int), flatE (ps.set a q) = ((flatE ps).set (a * 2) (.int .i64 q.1)).set (a * 2 + 1) (.int .i64 q.2)
  | [], a, q => by simp [flatE]
  | p :: ps, 0, q => by simp [flatE]
  | p :: ps, a + 1, q => by
    have ih := flatE_setB ps a q
    have e : (a + 1) * 2 = a * 2 + 1 + 1 := by omega
    rw [e]
    simpa [flatE] using ih
theorem EdsBlk.set (h : EdsBlk w g l) (i : Nat) (x y : Int) : EdsBlk ((w.setCell ⟨g, i * 2, none⟩ (.int .i64 x)).setCell ⟨g, i * 2 + 1, none⟩ (.int .i64 y)) g (l.set i (x, y)) := by
  unfold EdsBlk
  have h1 := heap_setCell_same w g (i * 2) _ _ (.int .i64 x) h
  have h2 := heap_setCell_same _ g (i * 2 + 1) _ _ (.int .i64 y) h1
  rw [h2, flatE_setB]
  simp
theorem EdsBlk.one (h : EdsBlk w g l) (i : Nat) (x : Int) {q : Int × Int} (hq : l[i]? = some q) : (w.setCell ⟨g, i * 2, none⟩ (.int .i64 x)).cell? ⟨g, i * 2 + 1, none⟩ = some (.int .i64 q.2) ∧ (w.setCell ⟨g, i * 2, none⟩ (.int .i64 x)).frozen? ⟨g, i * 2 + 1, none⟩ = false := by
  have h1 := heap_setCell_same w g (i * 2) _ _ (.int .i64 x) h
  obtain ⟨_, h0⟩ := flatE_at l i q hq
  constructor
  · simp [World.cell?, h1, h0]
  · simp [World.frozen?, h1]
theorem EdsBlk.at (h : EdsBlk w g l) : EdgesAt w (some ⟨g, 0, none⟩) l := fun j p hj => ⟨g, 0, rfl, by rw [Nat.zero_add]; exact (h.cells hj).1, by rw [Nat.zero_add]; exact (h.cells hj).2⟩
theorem EdsBlk.alloc (h : EdsBlk w g l) (o : Obj) : EdsBlk (w.alloc o) g l := (Below.heap_alloc w o g h.lt).trans h
theorem eds_of_row {B n : Nat} (h : w.ownsRow B 26 2 (.slice (some ⟨g, 0, none⟩) n n) n (flatE l)) : EdsBlk w g l := by
  rcases h.2 with ⟨h, _⟩ | ⟨g', cap, cur, e, _, hh, _, _, hs, ht⟩
  · cases h
  · cases e
    rw [List.take_of_length_le (by simp; omega)] at ht
    unfold EdsBlk
    rw [hh, ← ht]
end
theorem flatE_zerosB : ∀ n : Nat, flatE (List.replicate n ((0 : Int), (0 : Int))) = List.replicate (n * 2) (.int .i64 0)
  | 0 => rfl
  | n + 1 => by
    have := flatE_zerosB n
    rw [show (n + 1) * 2 = n * 2 + 1 + 1 by omega, List.replicate_succ, List.replicate_succ, List.replicate_succ, ← this]
    rfl
theorem made_eds (n : Nat) : (madeCells #[.int .i64 0, .int .i64 0] (n * 2)).toList = flatE (List.replicate n ((0 : Int), (0 : Int))) := by
  rw [flatE_zerosB]
  apply List.ext_getElem?
  intro j
  by_cases hj : j < n * 2
  · have : j % 2 = 0 ∨ j % 2 = 1 := by omega
    rcases this with e | e <;> simp [madeCells, hj, e]
  · simp [madeCells, hj]


theorem Try.infoBoolE : (Try.prog.info? 4).map (fun i => (i.zero, i.size, i.bytes)) = some (some (.bool false), 1, 1) := by kernel_rfl

/-- Block g holds just these Booleans. -/
def BlsBlk (w : World) (g : Nat) (l : List Bool) : Prop := w.heap[g]? = some (.cells (l.map Value.bool).toArray 4 (0, 0))

section
variable {w w' : World} {g : Nat} {l : List Bool}
theorem BlsBlk.lt (h : BlsBlk w g l) : g < w.heap.size := lt_of_block h
theorem BlsBlk.cell (h : BlsBlk w g l) {i : Nat} {x : Bool} (hx : l[i]? = some x) : w.cell? ⟨g, i, none⟩ = some (.bool x) := by
  unfold BlsBlk at h
  simp [World.cell?, h, hx]
theorem BlsBlk.free (h : BlsBlk w g l) (i : Nat) : w.frozen? ⟨g, i, none⟩ = false := by
  unfold BlsBlk at h
  simp [World.frozen?, h]
theorem BlsBlk.set (h : BlsBlk w g l) (i : Nat) (x : Bool) : BlsBlk (w.setCell ⟨g, i, none⟩ (.bool x)) g (l.set i x) := by
  unfold BlsBlk at h ⊢
  rw [heap_setCell_same w g i _ _ _ h]
  simp [List.map_set]
theorem BlsBlk.later (h : BlsBlk w g l) (hb : Below w.heap.size w w') : BlsBlk w' g l := (hb.block g h.lt).trans h
theorem bls_of_row {B n : Nat} (h : w.ownsRow B 4 1 (.slice (some ⟨g, 0, none⟩) n n) n (l.map Value.bool)) : BlsBlk w g l := by
  rcases h.2 with ⟨h, _⟩ | ⟨g', cap, cur, e, _, hh, _, _, hs, ht⟩
  · cases h
  · cases e
    rw [List.take_of_length_le (by simp; omega)] at ht
    unfold BlsBlk
    rw [hh, ← ht]
end
theorem made_bls (n : Nat) : (madeCells #[.bool false] n).toList = (List.replicate n false).map Value.bool := by
  rw [toList_madeCells_one, List.map_replicate]

end Go.Proofs.Ytdkckdbpbdhoaaa

/-
  A list of graphs, each with edges in memory of its own.
-/
namespace Go.Proofs.Ytdkckdbpbdhoaaa
open Go.RowKit

theorem Try.infoGraph : (Try.prog.info? 24).map (fun i => (i.zero, i.size, i.bytes)) = some (some (.agg #[.int .i64 0, .slice none 0 0]), 2, 32) := by kernel_rfl

/-- The cells of graphs, one after the other. -/
def flatG (vs : List (Int × Value)) : List Value := vs.flatMap fun p => [.int .i64 p.1, p.2]
theorem flatG_append (a b : List (Int × Value)) : flatG (a ++ b) = flatG a ++ flatG b := by simp [flatG]
theorem flatG_length : ∀ vs : List (Int × Value), (flatG vs).length = vs.length * 2
  | [] => rfl
  | p :: vs => by
    have := flatG_length vs
    simp [flatG] at this ⊢
    omega
theorem flatG_at : ∀ (vs : List (Int × Value)) (j : Nat) (p : Int × Value), vs[j]? = some p → (flatG vs)[j * 2]? = some (.int .i64 p.1) ∧ (flatG vs)[j * 2 + 1]? = some p.2
  | [], j, p, h => by simp at h
  | q :: vs, 0, p, h => by
    simp at h
    subst h
    simp [flatG]
  | q :: vs, j + 1, p, h => by
    simp at h
    have := flatG_at vs j p h
    have e : (j + 1) * 2 = j * 2 + 1 + 1 := by omega
    rw [e]
    simpa [flatG] using this

/-- v is a list of graphs, in memory of its own laid since block B; the edges of each, ls, too. -/
structure Grs (w : World) (B : Nat) (v : Value) (vs : List (Int × Value)) (ls : List (List (Int × Int))) : Prop where
  len : vs.length = ls.length
  outer : w.ownsRow B 24 2 v ls.length (flatG vs)
  row : ∀ (u : Nat) (p : Int × Value) (l : List (Int × Int)), vs[u]? = some p → ls[u]? = some l → OwnE w B p.2 l
  apart : ∀ (u u' : Nat) (p p' : Int × Value) (b : Nat), u ≠ u' → vs[u]? = some p → vs[u']? = some p' → p.2.ownBlock = some b → p'.2.ownBlock ≠ some b
  far : ∀ (u : Nat) (p : Int × Value) (b : Nat), vs[u]? = some p → p.2.ownBlock = some b → v.ownBlock ≠ some b

/-- b is a block of one of the graphs' edges. -/
def inG (vs : List (Int × Value)) (b : Nat) : Prop := ∃ (u : Nat) (p : Int × Value), vs[u]? = some p ∧ p.2.ownBlock = some b

theorem OwnE.same {w w' : World} {B : Nat} {v : Value} {l : List (Int × Int)} (h : OwnE w B v l) (hb : ∀ g, v.ownBlock = Option.some g → g < w.heap.size → w'.heap[g]? = w.heap[g]?) : OwnE w' B v l :=
  row_same h fun g hg _ hl => hb g hg hl

section
variable {w w' : World} {B : Nat} {v : Value} {vs : List (Int × Value)} {ls : List (List (Int × Int))}
theorem Grs.at (h : Grs w B v vs ls) {u : Nat} {p : Int × Value} (hx : vs[u]? = some p) : ∃ l, ls[u]? = some l := ⟨_, List.getElem?_eq_getElem (by rw [← h.len]; exact (List.getElem?_eq_some_iff.1 hx).1)⟩
theorem Grs.at' (h : Grs w B v vs ls) {u : Nat} {l : List (Int × Int)} (hl : ls[u]? = some l) : ∃ p, vs[u]? = some p := ⟨_, List.getElem?_eq_getElem (by rw [h.len]; exact (List.getElem?_eq_some_iff.1 hl).1)⟩
theorem Grs.kept (h : Grs w B v vs ls) (hb : ∀ b, (v.ownBlock = some b ∨ inG vs b) → b < w.heap.size → w'.heap[b]? = w.heap[b]?) : Grs w' B v vs ls :=
  ⟨h.len, row_same h.outer fun g hg _ hl => hb g (.inl hg) hl, fun u p l hp hl => (h.row u p l hp hl).same fun g hg hlt => hb g (.inr ⟨u, p, hp, hg⟩) hlt, h.apart, h.far⟩
theorem Grs.later (h : Grs w B v vs ls) (hb : Below w.heap.size w w') : Grs w' B v vs ls := h.kept fun b _ hl => hb.block b hl
theorem Grs.nil (w : World) (B : Nat) : Grs w B (.slice none 0 0) [] [] := ⟨rfl, World.ownsRow_nil _ _ _ _, fun u x l hx => by simp at hx, fun u u' x x' b _ hx => by simp at hx, fun u x b hx => by simp at hx⟩
theorem Grs.within (h : Grs w B v vs ls) {b : Nat} (hb : v.ownBlock = some b ∨ inG vs b) : B ≤ b ∧ b < w.heap.size := by
  rcases hb with hb | ⟨u, x, hx, hb⟩
  · exact World.ownsRow.lt h.outer b hb
  · obtain ⟨l, hl⟩ := h.at hx
    exact World.ownsRow.lt (h.row u x l hx hl) b hb
theorem Grs.shape (h : Grs w B v vs ls) : ∃ ao c, v = .slice ao ls.length c := by
  rcases h.outer.2 with ⟨rfl, h0⟩ | ⟨g, cap, cur, rfl, _⟩
  · exact ⟨none, 0, by rw [h0]⟩
  · exact ⟨_, cap, rfl⟩
theorem Grs.look (h : Grs w B v vs ls) {u : Nat} {p : Int × Value} (hx : vs[u]? = some p) : ∃ g c, v = .slice (some ⟨g, 0, none⟩) ls.length c ∧ w.cell? ⟨g, u * 2, none⟩ = some (.int .i64 p.1) ∧ w.cell? ⟨g, u * 2 + 1, none⟩ = some p.2 := by
  have hk := (List.getElem?_eq_some_iff.1 hx).1
  have hl := h.len
  rcases h.outer.2 with ⟨_, h0⟩ | ⟨g, c, cur, e, _⟩
  · omega
  · have hc := World.ownsRow.cells h.outer (g := g) (by rw [e]; rfl)
    simp only [addrE] at hc
    obtain ⟨h0, h1⟩ := flatG_at vs u p hx
    exact ⟨g, c, e, hc _ _ h0, hc _ _ h1⟩

/-- The graphs vs2 are put behind vs. -/
theorem Grs.more {W w1 : World} {v' : Value} {vs2 : List (Int × Value)} {ls2 : List (List (Int × Int))} (h : Grs W B v vs ls) (len2 : vs2.length = ls2.length) (row2 : ∀ (u : Nat) (p : Int × Value) (l : List (Int × Int)), vs2[u]? = some p → ls2[u]? = some l → OwnE W B p.2 l)
    (apart2 : ∀ (u u' : Nat) (p p' : Int × Value) (b : Nat), u ≠ u' → vs2[u]? = some p → vs2[u']? = some p' → p.2.ownBlock = some b → p'.2.ownBlock ≠ some b) (hx : ∀ b, inG vs2 b → ¬ (v.ownBlock = some b ∨ inG vs b))
    (hown : w1.ownsRow B 24 2 v' (ls.length + ls2.length) (flatG vs ++ flatG vs2)) (hgrow : W.grownBy w1 v.ownBlock) (hat : v'.ownBlock = v.ownBlock ∨ v'.ownBlock = some W.heap.size) : Grs w1 B v' (vs ++ vs2) (ls ++ ls2) := by
  have hsame : ∀ g, v.ownBlock ≠ some g → g < W.heap.size → w1.heap[g]? = W.heap[g]? := fun g hne hg => hgrow.block g hg (fun e => hne e.symm)
  have hpart : ∀ u y, (vs ++ vs2)[u]? = some y → (u < vs.length ∧ vs[u]? = some y) ∨ (vs.length ≤ u ∧ vs2[u - vs.length]? = some y) := fun u y hy => by
    by_cases hu : u < vs.length
    · rw [List.getElem?_append_left hu] at hy
      exact .inl ⟨hu, hy⟩
    · rw [List.getElem?_append_right (by omega)] at hy
      exact .inr ⟨by omega, hy⟩
  have hat2 : ∀ {u : Nat} {x : Int × Value}, vs2[u]? = some x → ∃ l, ls2[u]? = some l := fun {u x} hx => ⟨_, List.getElem?_eq_getElem (by rw [← len2]; exact (List.getElem?_eq_some_iff.1 hx).1)⟩
  refine ⟨by simp [h.len, len2], by rw [List.length_append, flatG_append]; exact hown, fun u y k hy hk => ?_, fun u u' y y' b hne hy hy' hb => ?_, fun u y b hy hb => ?_⟩
  · rcases hpart u y hy with ⟨hu, h1⟩ | ⟨hu, h1⟩
    · rw [List.getElem?_append_left (by rw [← h.len]; exact hu)] at hk
      exact (h.row u y k h1 hk).same fun g hg hl => hsame g (h.far u y g h1 hg) hl
    · rw [List.getElem?_append_right (by rw [← h.len]; exact hu), ← h.len] at hk
      exact (row2 _ y k h1 hk).same fun g hg hl => hsame g (fun e => hx g ⟨_, y, h1, hg⟩ (.inl e)) hl
  · rcases hpart u y hy with ⟨hu, h1⟩ | ⟨hu, h1⟩ <;> rcases hpart u' y' hy' with ⟨hu', h2⟩ | ⟨hu', h2⟩
    · exact h.apart u u' y y' b hne h1 h2 hb
    · intro hc
      exact hx b ⟨_, y', h2, hc⟩ (.inr ⟨u, y, h1, hb⟩)
    · intro hc
      exact hx b ⟨_, y, h1, hb⟩ (.inr ⟨u', y', h2, hc⟩)
    · exact apart2 _ _ y y' b (by omega) h1 h2 hb
  · intro hc
    rcases hat with e | e
    · rw [e] at hc
      rcases hpart u y hy with ⟨hu, h1⟩ | ⟨hu, h1⟩
      · exact h.far u y b h1 hb hc
      · exact hx b ⟨_, y, h1, hb⟩ (.inl hc)
    · have hbs := Option.some.inj (e.symm.trans hc)
      rcases hpart u y hy with ⟨hu, h1⟩ | ⟨hu, h1⟩
      · obtain ⟨k, hk⟩ := h.at h1
        have := (World.ownsRow.lt (h.row u y k h1 hk) b hb).2
        omega
      · obtain ⟨k, hk⟩ := hat2 h1
        have := (World.ownsRow.lt (row2 _ y k h1 hk) b hb).2
        omega

/-- An edge of graph u is stored. -/
theorem Grs.write {u g p c i : Nat} {n : Int} {l : List (Int × Int)} (h : Grs w B v vs ls) (hx : vs[u]? = some (n, .slice (some ⟨g, 0, none⟩) p c)) (hl : ls[u]? = some l) (hp : l.length = p) (hi : i < p) (q : Int × Int) :
    (∃ y, w.cell? ⟨g, i * 2, none⟩ = some y) ∧ w.frozen? ⟨g, i * 2, none⟩ = false ∧ (∃ y, (w.setCell ⟨g, i * 2, none⟩ (.int .i64 q.1)).cell? ⟨g, i * 2 + 1, none⟩ = some y) ∧ (w.setCell ⟨g, i * 2, none⟩ (.int .i64 q.1)).frozen? ⟨g, i * 2 + 1, none⟩ = false ∧
    Grs ((w.setCell ⟨g, i * 2, none⟩ (.int .i64 q.1)).setCell ⟨g, i * 2 + 1, none⟩ (.int .i64 q.2)) B v vs (ls.set u (l.set i q)) ∧ B ≤ g := by
  have ho := h.row u _ l hx hl
  have hul := (List.getElem?_eq_some_iff.1 hl).1
  unfold OwnE at ho
  dsimp only at ho
  rw [hp] at ho
  obtain ⟨y, hy⟩ : ∃ y, l[i]? = some y := ⟨_, List.getElem?_eq_getElem (by omega)⟩
  obtain ⟨f0, f1⟩ := flatE_at l i y hy
  have hc := World.ownsRow.cells ho (g := g) rfl
  simp only [addrE] at hc
  have s1 := (ho.stored (i * 2) (.int .i64 q.1)).1
  have hc1 := World.ownsRow.cells s1 (g := g) rfl
  simp only [addrE] at hc1
  have s2 := (s1.stored (i * 2 + 1) (.int .i64 q.2)).1
  have hoth : ∀ b, b ≠ g → ((w.setCell ⟨g, i * 2, none⟩ (.int .i64 q.1)).setCell ⟨g, i * 2 + 1, none⟩ (.int .i64 q.2)).heap[b]? = w.heap[b]? := fun b hb => by
    rw [heap_setCell_other _ ⟨g, i * 2 + 1, none⟩ b _ hb, heap_setCell_other _ ⟨g, i * 2, none⟩ b _ hb]
  refine ⟨⟨_, hc _ _ f0⟩, ho.frozenAt _, ⟨_, hc1 _ _ (by rw [List.getElem?_set, if_neg (by omega)]; exact f1)⟩, s1.frozenAt _, ⟨by simp [h.len], by rw [List.length_set]; exact row_same h.outer fun b hb _ _ => hoth b (fun e => h.far u _ g hx rfl (by rw [← e]; exact hb)), fun a z k ha hk => ?_, h.apart, h.far⟩, (World.ownsRow.lt ho g rfl).1⟩
  rw [List.getElem?_set] at hk
  by_cases e : u = a
  · subst e
    rw [if_pos rfl, if_pos hul] at hk
    rw [hx] at ha
    cases ha
    cases hk
    unfold OwnE
    rw [List.length_set, hp, flatE_setB]
    exact s2
  · rw [if_neg e] at hk
    exact (h.row a z k ha hk).same fun b hb _ => hoth b (fun e2 => h.apart u a _ z g e hx ha rfl (by rw [← e2]; exact hb))

/-- Edges that lie there, by cells. -/
theorem ownE_cellAt {g p c i : Nat} {l : List (Int × Int)} {q : Int × Int} (h : OwnE w B (.slice (some ⟨g, 0, none⟩) p c) l) (hq : l[i]? = some q) : w.cell? ⟨g, i * 2, none⟩ = some (.int .i64 q.1) ∧ w.cell? ⟨g, i * 2 + 1, none⟩ = some (.int .i64 q.2) := by
  have hc := World.ownsRow.cells h (g := g) rfl
  simp only [addrE] at hc
  obtain ⟨f0, f1⟩ := flatE_at l i q hq
  exact ⟨hc _ _ f0, hc _ _ f1⟩
end

end Go.Proofs.Ytdkckdbpbdhoaaa

/-
  Edges appended to while the list they began with stays; the lists of graphs and what was grown of them, beside each other.
-/
namespace Go.Proofs.Ytdkckdbpbdhoaaa
open Go.RowKit

theorem Try.infoRowE : (Try.prog.info? 22).map (fun i => (i.zero, i.size, i.bytes)) = some (some (.slice none 0 0), 1, 24) := by kernel_rfl

theorem grown_anyE {w w' : World} (h : w.grownBy w' none) (r : Option Nat) : w.grownBy w' r := ⟨h.os, h.tape, h.output, h.size, fun k hk _ => h.block k hk (by simp)⟩

/-- The list that a longer one in its block began with. -/
theorem own_prefixE {w : World} {B g p i c : Nat} {xs ys : List Value} (h : w.ownsRow B 26 2 (.slice (some ⟨g, 0, none⟩) (p + i) c) (p + i) (xs ++ ys)) (hx : xs.length = p * 2) : w.ownsRow B 26 2 (.slice (some ⟨g, 0, none⟩) p c) p xs := by
  rcases h.2 with ⟨h', _⟩ | ⟨g', cap, cur, e, hB, hh, hc, hm, hs, ht⟩
  · cases h'
  · cases e
    refine ⟨by omega, .inr ⟨g, c, cur, rfl, hB, hh, by omega, hm, hs, ?_⟩⟩
    have e1 : cur.toList.take (p * 2) = (cur.toList.take ((p + i) * 2)).take (p * 2) := by rw [List.take_take]; congr 1; omega
    rw [e1, ht, List.take_append_of_le_length (by omega), List.take_of_length_le (by omega)]

/-- 'append(v, z)' of edges of one's own: the list it began with reads as before. -/
theorem wpList_keepE {W : World} {ops : Array Oper} {rest : List Oper} {o : Oper} {a : Act} {Q : Exit → Act → World → Prop} (hgd : o.guard = none) (s x : Operand)
    (ho : o.op = .call { callee := .builtin .append, args := #[s, x], argTypes := #[22, 22] }) (B p : Nat) (ao : Option Addr) (c : Nat) (xs : List Value) (y z : Int)
    (hs : a.eval s = .slice ao p c) (hown : W.ownsRow B 26 2 (.slice ao p c) p xs) (ad : Addr) (hx : a.eval x = .slice (some ad) 1 1) (hnews : ∀ j u, [Value.int .i64 y, .int .i64 z][j]? = some u → W.cell? (ad.add j) = some u) (hp : p ≤ 8796093022000) (hB : B ≤ W.heap.size)
    (h : ∀ g' c' w', w'.ownsRow B 26 2 (.slice (some ⟨g', 0, none⟩) (p + 1) c') (p + 1) (xs ++ [.int .i64 y, .int .i64 z]) → w'.ownsRow B 26 2 (.slice ao p c) p xs → W.grownBy w' (Value.slice ao p c).ownBlock → (((Value.slice ao p c).ownBlock = some g' ∧ c' = c) ∨ W.heap.size ≤ g') → g' < w'.heap.size → wpList Try.prog ops Q rest (a.put o.dst (.slice (some ⟨g', 0, none⟩) (p + 1) c')) w') :
    wpList Try.prog ops Q (o :: rest) a W := by
  obtain ⟨i0, hi, hz0, hz1, hz2⟩ := info_parts Try.infoEdge
  have hxl : xs.length = p * 2 := hown.1
  by_cases hroom : p + 1 ≤ c
  · obtain ⟨g, hg⟩ : ∃ g, ao = some ⟨g, 0, none⟩ := by
      rcases hown.2 with ⟨h', _⟩ | ⟨g, cap, cur, e, _⟩
      · cases h'; omega
      · cases e; exact ⟨g, rfl⟩
    subst hg
    refine wpList_append_own_spare (w := W) hgd s x 22 ho B 26 i0 2 Try.underlying22 hi hz1 g p c xs hs hown ad 1 1 [.int .i64 y, .int .i64 z] hx rfl hnews (by simp [Value.oneCell']) hroom ?_
    intro w' h2 h3
    exact h g c w' h2 (own_prefixE h2 hxl) h3 (.inl ⟨rfl, rfl⟩) (World.ownsRow.lt h2 g rfl).2
  · refine wpList_append_grows W hgd s x 22 ho 26 i0 (.agg #[.int .i64 0, .int .i64 0]) 2 16 Try.underlying22 hi hz0 hz1 hz2 rfl (by decide) ao p c xs hs (fun e => ?_) (by omega) (fun b hb j u hj => ?_) ad 1 1 [.int .i64 y, .int .i64 z] hx rfl hnews (by simp [Value.oneCell']) (by omega) (by unfold maxLen; omega) (by omega) ?_
    · rcases hown.2 with ⟨h', h0⟩ | ⟨g, cap, cur, e', _⟩
      · cases h'; exact ⟨h0, rfl⟩
      · rw [e] at e'; cases e'
    · rcases hown.2 with ⟨h', h0⟩ | ⟨g, cap, cur, e', _⟩
      · rw [hb] at h'; cases h'
      · rw [hb] at e'
        cases e'
        have := World.ownsRow.cells hown (g := g) (by rw [hb]; rfl) j u hj
        exact this
    · intro v' w' h2 h3
      obtain ⟨g', c', rfl⟩ := own_succ h2
      have hlt := World.ownsRow.lt h2 g' rfl
      have h4 : w'.ownsRow B 26 2 (.slice (some ⟨g', 0, none⟩) (p + 1) c') (p + 1) (xs ++ [.int .i64 y, .int .i64 z]) := by
        rcases h2.2 with h' | ⟨g, cap, cur, e1, hgB, hr⟩
        · exact ⟨h2.1, .inl h'⟩
        · exact ⟨h2.1, .inr ⟨g, cap, cur, e1, Nat.le_trans hB hgB, hr⟩⟩
      exact h g' c' w' h4 (hown.kept h3 (by cases (Value.slice ao p c).ownBlock <;> simp)) (grown_anyE h3 _) (.inr hlt.1) hlt.2

/-- b is a block of one of the lists. -/
def inL (vs : List Value) (b : Nat) : Prop := ∃ (u : Nat) (x : Value), vs[u]? = some x ∧ x.ownBlock = some b

/-- The graphs, and the lists that were grown of the first k; S0: the heap's size ahead. -/
structure BothE (w : World) (B S0 : Nat) (v : Value) (vs : List (Int × Value)) (ls : List (List (Int × Int))) (gv : Value) (gs : List Value) (k : Nat) (V : World) : Prop where
  all : Grs V B v vs ls
  glen : gs.length = k
  gout : V.ownsRow B 22 1 gv k gs
  grow : ∀ (j : Nat) (y : Value), gs[j]? = some y → ∃ l, ls[j]? = some l ∧ OwnE V B y (l ++ [((j : Int), -77)])
  from_ : ∀ (j : Nat) (y : Value) (b : Nat), gs[j]? = some y → y.ownBlock = some b → (∃ p, vs[j]? = some p ∧ p.2.ownBlock = some b) ∨ S0 ≤ b
  far : ∀ (j : Nat) (y : Value) (b : Nat), gs[j]? = some y → y.ownBlock = some b → gv.ownBlock ≠ some b
  outer : ∀ b, gv.ownBlock = some b → S0 ≤ b
  wrote : Wrote (inG vs) w V
  sz : S0 ≤ V.heap.size
  old : ∀ b, (v.ownBlock = some b ∨ inG vs b) → b < S0

section
variable {w : World} {B S0 : Nat} {v : Value} {vs : List (Int × Value)} {ls : List (List (Int × Int))} {gv : Value} {gs : List Value} {k : Nat} {V V' : World}

theorem BothE.start (h : Grs V B v vs ls) (hw : Wrote (inG vs) w V) : BothE w B V.heap.size v vs ls (.slice none 0 0) [] 0 V :=
  ⟨h, rfl, World.ownsRow_nil _ _ _ _, fun j y hy => (by simp at hy), fun j y b hy => (by simp at hy), fun j y b hy => (by simp at hy), fun b hb => (by cases hb), hw, Nat.le_refl _, fun b hb => (h.within hb).2⟩
theorem BothE.later (h : BothE w B S0 v vs ls gv gs k V) (hb : Below V.heap.size V V') : BothE w B S0 v vs ls gv gs k V' :=
  ⟨h.all.later hb, h.glen, row_same h.gout fun g _ _ hl => hb.block g hl, fun j y hy => by
    obtain ⟨l, h1, h2⟩ := h.grow j y hy
    exact ⟨l, h1, h2.below hb (Nat.le_refl _)⟩, h.from_, h.far, h.outer, h.wrote.later hb, Nat.le_trans h.sz hb.size, h.old⟩
theorem BothE.gshape (h : BothE w B S0 v vs ls gv gs k V) : ∃ ao c, gv = .slice ao k c := by
  rcases h.gout.2 with ⟨e, h0⟩ | ⟨g, cap, cur, e, _⟩
  · exact ⟨none, 0, by rw [e, h0]⟩
  · exact ⟨_, cap, e⟩
/-- Blocks of what was grown lie below the heap's end. -/
theorem BothE.lt (h : BothE w B S0 v vs ls gv gs k V) {b : Nat} (hb : gv.ownBlock = some b ∨ inL gs b) : b < V.heap.size := by
  rcases hb with hb | ⟨u, y, hy, hb⟩
  · exact (World.ownsRow.lt h.gout b hb).2
  · obtain ⟨l, _, h2⟩ := h.grow u y hy
    exact (World.ownsRow.lt h2 b hb).2

/-- List k, or new memory, is written; list k reads as before. -/
theorem BothE.after (h : BothE w B S0 v vs ls gv gs k V) {p : Int × Value} {l : List (Int × Int)} (hx : vs[k]? = some p) (hl : ls[k]? = some l) {r : Option Nat} (hg : V.grownBy V' r) {S1 : Nat} (hS : w.heap.size ≤ S1 ∧ S0 ≤ S1) (hgS : ∀ b, (gv.ownBlock = some b ∨ inL gs b) → b < S1) (hr : ∀ b, r = some b → (p.2.ownBlock = some b ∨ S1 ≤ b)) (hrow : OwnE V' B p.2 l) : BothE w B S0 v vs ls gv gs k V' := by
  have hxS : ∀ b, p.2.ownBlock = some b → b < S0 := fun b hb => h.old b (.inr ⟨k, p, hx, hb⟩)
  have hsame : ∀ b, b < V.heap.size → (p.2.ownBlock ≠ some b) → b < S1 → V'.heap[b]? = V.heap[b]? := fun b hb h1 h2 => hg.block b hb (fun e => by
    rcases hr b e.symm with h3 | h3
    · exact h1 h3
    · omega)
  refine ⟨⟨h.all.len, row_same h.all.outer fun b hb _ hlt => hsame b hlt (fun e => h.all.far k p b hx e hb) (Nat.lt_of_lt_of_le (h.old b (.inl hb)) hS.2), fun u y q hy hq => ?_, h.all.apart, h.all.far⟩, h.glen, row_same h.gout fun b hb _ hlt => hsame b hlt (fun e => ?_) (hgS b (.inl hb)), fun j y hy => ?_, h.from_, h.far, h.outer, ?_, Nat.le_trans h.sz hg.size, h.old⟩
  · by_cases e : k = u
    · subst e
      rw [hx] at hy
      rw [hl] at hq
      cases hy
      cases hq
      exact hrow
    · exact (h.all.row u y q hy hq).same fun b hb hlt => hsame b hlt (fun e2 => h.all.apart k u p y b e hx hy e2 hb) (Nat.lt_of_lt_of_le (h.old b (.inr ⟨u, y, hy, hb⟩)) hS.2)
  · have h1 := h.outer b hb
    have h2 := hxS b e
    omega
  · obtain ⟨l', h1, h2⟩ := h.grow j y hy
    refine ⟨l', h1, h2.same fun b hb hlt => hsame b hlt (fun e => ?_) (hgS b (.inr ⟨j, y, hy, hb⟩))⟩
    rcases h.from_ j y b hy hb with ⟨x', hx', hb'⟩ | h3
    · have hu : j < gs.length := (List.getElem?_eq_some_iff.1 hy).1
      have := h.glen
      exact h.all.apart k j p x' b (by omega) hx hx' e hb'
    · have h2 := hxS b e
      omega
  · refine ⟨hg.os.trans h.wrote.os, hg.tape.trans h.wrote.tape, hg.output.trans h.wrote.output, Nat.le_trans h.wrote.size hg.size, fun b hb hn => ?_⟩
    rw [hsame b (Nat.lt_of_lt_of_le hb h.wrote.size) (fun e => hn ⟨k, p, hx, e⟩) (Nat.lt_of_lt_of_le hb hS.1)]
    exact h.wrote.block b hb hn

/-- The outer list of what was grown gets one more. -/
theorem BothE.next {W : World} (h : BothE w B S0 v vs ls gv gs k W) {p : Int × Value} {y gv' : Value} {l : List (Int × Int)} (hx : vs[k]? = some p) (hl : ls[k]? = some l) (hy : OwnE W B y (l ++ [((k : Int), -77)])) (hyb : ∀ b, y.ownBlock = some b → (p.2.ownBlock = some b ∨ (S0 ≤ b ∧ ¬ (gv.ownBlock = some b ∨ inL gs b))))
    {tmp : Obj} {w1 : World} (hown : w1.ownsRow B 22 1 gv' (k + 1) (gs ++ [y])) (hgrow : (W.alloc tmp).grownBy w1 gv.ownBlock) (hat : gv'.ownBlock = gv.ownBlock ∨ gv'.ownBlock = some (W.heap.size + 1)) (hwS : w.heap.size ≤ S0) :
    BothE w B S0 v vs ls gv' (gs ++ [y]) (k + 1) w1 := by
  have hgl := h.glen
  have hxS : ∀ b, p.2.ownBlock = some b → b < S0 := fun b hb => h.old b (.inr ⟨k, p, hx, hb⟩)
  have hsame : ∀ b, gv.ownBlock ≠ some b → b < W.heap.size → w1.heap[b]? = W.heap[b]? := fun b hne hb => by
    rw [hgrow.block b (by rw [World.size_alloc]; omega) (fun e => hne e.symm)]
    exact Below.heap_alloc W tmp b hb
  have hsz := hgrow.size
  rw [World.size_alloc] at hsz
  have hlast : ∀ j z, (gs ++ [y])[j]? = some z → (j < gs.length ∧ gs[j]? = some z) ∨ (j = k ∧ z = y) := fun j z hz => by
    by_cases hj : j < gs.length
    · rw [List.getElem?_append_left hj] at hz
      exact .inl ⟨hj, hz⟩
    · rw [List.getElem?_append_right (by omega)] at hz
      have hl0 := (List.getElem?_eq_some_iff.1 hz).1
      have e0 : j - gs.length = 0 := by simp at hl0; omega
      rw [e0] at hz
      exact .inr ⟨by omega, (Option.some.inj hz).symm⟩
  have hyg : ∀ b, y.ownBlock = some b → gv.ownBlock ≠ some b := fun b hb e => by
    rcases hyb b hb with h1 | ⟨_, h1⟩
    · have := hxS b h1
      have := h.outer b e
      omega
    · exact h1 (.inl e)
  refine ⟨h.all.kept fun b hb hlt => hsame b (fun e => ?_) hlt, by rw [List.length_append, h.glen]; rfl, hown, fun j z hz => ?_, fun j z b hz hb => ?_, fun j z b hz hb hc => ?_, fun b hb => ?_, ?_, Nat.le_trans h.sz (by omega), h.old⟩
  · have h1 := h.outer b e
    have h2 := h.old b hb
    omega
  · rcases hlast j z hz with ⟨_, h1⟩ | ⟨rfl, rfl⟩
    · obtain ⟨l', h2, h3⟩ := h.grow j z h1
      exact ⟨l', h2, h3.same fun b hb hlt => hsame b (h.far j z b h1 hb) hlt⟩
    · exact ⟨l, hl, hy.same fun b hb hlt => hsame b (hyg b hb) hlt⟩
  · rcases hlast j z hz with ⟨_, h1⟩ | ⟨rfl, rfl⟩
    · exact h.from_ j z b h1 hb
    · rcases hyb b hb with h1 | ⟨h1, _⟩
      · exact .inl ⟨p, hx, h1⟩
      · exact .inr h1
  · rcases hat with e | e
    · rw [e] at hc
      rcases hlast j z hz with ⟨_, h1⟩ | ⟨rfl, rfl⟩
      · exact h.far j z b h1 hb hc
      · exact hyg b hb hc
    · have hbs := Option.some.inj (e.symm.trans hc)
      rcases hlast j z hz with ⟨_, h1⟩ | ⟨rfl, rfl⟩
      · have := h.lt (.inr ⟨j, z, h1, hb⟩)
        omega
      · have := (World.ownsRow.lt hy b hb).2
        omega
  · rcases hat with e | e
    · exact h.outer b (e.symm.trans hb)
    · have := Option.some.inj (e.symm.trans hb)
      have := h.sz
      omega
  · refine ⟨hgrow.os.trans h.wrote.os, hgrow.tape.trans h.wrote.tape, hgrow.output.trans h.wrote.output, Nat.le_trans h.wrote.size (by omega), fun b hb hn => ?_⟩
    rw [hsame b (fun e => by have := h.outer b e; omega) (Nat.lt_of_lt_of_le hb h.wrote.size)]
    exact h.wrote.block b hb hn
end

end Go.Proofs.Ytdkckdbpbdhoaaa
