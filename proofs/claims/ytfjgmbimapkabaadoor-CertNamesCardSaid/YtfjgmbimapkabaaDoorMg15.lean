import Derived.Test.YtfjgmbimapkabaaDoorMg11
import Derived.Test.YtfjgmbimapkabaaDoorMg12
import Derived.Test.YtfjgmbimapkabaaDoorMg14
/-
  The document's own Parse.
-/
namespace Go.Proofs.YtfjgmbimapkabaaDoor
open Go.RowKit

/-- A certificate in memory of its own. -/
def CertAt (w : World) (B : Nat) (v : Value) (c : Ce.Cert) : Prop := ∃ va ve vs, v = .agg #[.bool c.pl, va, ve] ∧ RowsZ w B va vs c.ar ∧ OwnE w B ve c.es
/-- What Parse answers. -/
def ParsP (r : Ce.Cert × Int × Int) (w : World) (e : Ending) (w' : World) : Prop :=
  Below w.heap.size w w' ∧ ∃ v, e = .returned (.tuple #[v, .int .i64 r.2.1, .int .i64 r.2.2]) ∧ CertAt w' w.heap.size v r.1
theorem certAt_zero (w : World) (B : Nat) : CertAt w B (.agg #[.bool false, .slice none 0 0, .slice none 0 0]) Ce.zero := ⟨_, _, [], rfl, RowsZ.nil _ _, OwnE.nil _ _⟩

theorem parsP_err {R : Ce.Cert × Int × Int} {w w' : World} {p q : Int} (h : (Ce.zero, p, q) = R) (hb : Below w.heap.size w w') : ParsP R w (.returned (.tuple #[.agg #[.bool false, .slice none 0 0, .slice none 0 0], .int .i64 p, .int .i64 q])) w' := by
  subst h
  exact ⟨hb, _, rfl, certAt_zero _ _⟩
theorem HasText.lists {w : World} {ao : Option Addr} {n cap : Nat} {g : Nat → Int} (h : HasText w ao n g) (hn : n ≤ 33554432) :
    (∀ W, Below w.heap.size w W → ∀ i : Nat, i ≤ n → Calls Tryd.prog 25 #[.slice ao n cap, .int .i64 (i : Int)] W (LstP (Ce.lst (Ce.atF n g) n i) W)) ∧
    (∀ W, Below w.heap.size w W → ∀ (i : Nat) (la lb : Int), i ≤ n → Calls Tryd.prog 26 #[.slice ao n cap, .int .i64 (i : Int), .agg #[.int .i64 la, .int .i64 lb]] W (EdgP (Ce.edg (Ce.atF n g) n i (la, lb)) W)) :=
  ⟨fun _ hW i hi => rlist17_any (h.later hW) hn i hi, fun _ hW i la lb hi => redge17_any (h.later hW) hn i hi la lb⟩

/-- 'append(v, e)', v a list of edges of one's own; what else is written. -/
theorem wpList_pushE17 {ops : Array Oper} {rest : List Oper} {o : Oper} {a : Act} {Q : Exit → Act → World → Prop} (hgd : o.guard = none) (s x : Operand)
    (ho : o.op = .call { callee := .builtin .append, args := #[s, x], argTypes := #[25, 25] }) (W : World) (B : Nat) (v : Value) (l : List (Int × Int)) (y z : Int) (hown : OwnE W B v l)
    (hB : B ≤ W.heap.size) (hl : l.length ≤ 8796093022000) (hs : a.eval s = v) (hx : a.eval x = .slice (some ⟨W.heap.size, 0, none⟩) 1 1)
    (h : ∀ v' w', OwnE w' B v' (l ++ [(y, z)]) → (W.alloc (.cells #[.int .i64 y, .int .i64 z] 55)).grownBy w' v.ownBlock → wpList Tryd.prog ops Q rest (a.put o.dst v') w') :
    wpList Tryd.prog ops Q (o :: rest) a (W.alloc (.cells #[.int .i64 y, .int .i64 z] 55)) := by
  obtain ⟨i0, hi, hz0, hz1, hz2⟩ := info_parts Tryd.infoEdge
  refine wpList_append_own _ hgd s x 25 ho B 55 i0 (.agg #[.int .i64 0, .int .i64 0]) 2 16 Tryd.underlying25 hi hz0 hz1 hz2 rfl (by decide) _ _ _ hs (World.ownsRow.alloc hown _) ⟨W.heap.size, 0, none⟩ 1 1 [.int .i64 y, .int .i64 z] hx rfl (new_two_e _ _ rfl _ _ _) (by simp [Value.oneCell']) (by unfold maxLen; omega) (by omega) (by simp; omega) ?_
  intro v' w' hown' hg _
  refine h v' w' ?_ hg
  unfold OwnE
  rw [flatE_snoc, List.length_append]
  exact hown'

/-- 'append(v, x)', v a list of lists of one's own. -/
theorem wpList_pushR17 {ops : Array Oper} {rest : List Oper} {o : Oper} {a : Act} {Q : Exit → Act → World → Prop} (hgd : o.guard = none) (s x : Operand)
    (ho : o.op = .call { callee := .builtin .append, args := #[s, x], argTypes := #[24, 24] }) (W : World) (B : Nat) (v : Value) (vs : List Value) (m : Nat) (xa : Option Addr) (xn xc : Nat) (hown : W.ownsRow B 34 1 v m vs)
    (hB : B ≤ W.heap.size) (hl : m ≤ 4398046511000) (hs : a.eval s = v) (hx : a.eval x = .slice (some ⟨W.heap.size, 0, none⟩) 1 1)
    (h : ∀ v' w', w'.ownsRow B 34 1 v' (m + 1) (vs ++ [.slice xa xn xc]) → (W.alloc (.cells #[.slice xa xn xc] 34)).grownBy w' v.ownBlock → (v'.ownBlock = v.ownBlock ∨ v'.ownBlock = some (W.heap.size + 1)) → wpList Tryd.prog ops Q rest (a.put o.dst v') w') :
    wpList Tryd.prog ops Q (o :: rest) a (W.alloc (.cells #[.slice xa xn xc] 34)) := by
  obtain ⟨i1, hi1, hy0, hy1, hy2⟩ := info_parts Tryd.infoRow
  refine wpList_append_own_at _ hgd s x 24 ho B 34 i1 (.slice none 0 0) 1 24 Tryd.underlying24 hi1 hy0 hy1 hy2 rfl (by decide) _ _ _ hs (World.ownsRow.alloc hown _) ⟨W.heap.size, 0, none⟩ 1 1 [.slice xa xn xc] hx rfl (cell_one_new _ _ _) (by simp [Value.oneCell']) (by unfold maxLen; omega) (by omega) (by simp; omega) ?_
  intro v' w' hown' hg _ h5
  rw [World.size_alloc] at h5
  exact h v' w' hown' hg h5

/-- What Parse has in memory while lists are read. -/
structure PaS (w : World) (pl : Bool) (va ve : Value) (vs : List Value) (ls : List (List Int)) (es : List (Int × Int)) (la lb : Int) (W : World) : Prop where
  low : Below w.heap.size w W
  res : W.heap[w.heap.size]? = some (.cells #[.bool false, .slice none 0 0, .slice none 0 0] 27 (0, 0))
  box : W.heap[w.heap.size + 1]? = some (.cells #[.bool pl, va, ve] 27 (0, 0))
  last : W.heap[w.heap.size + 1 + 1]? = some (.cells #[.int .i64 la, .int .i64 lb] 55 (0, 0))
  rows : RowsZ W (w.heap.size + 3) va vs ls
  edges : OwnE W (w.heap.size + 3) ve es
section
variable {w W W' : World} {pl : Bool} {va ve : Value} {vs : List Value} {ls : List (List Int)} {es : List (Int × Int)} {la lb : Int}
theorem PaS.later (h : PaS w pl va ve vs ls es la lb W) (hb : Below W.heap.size W W') : PaS w pl va ve vs ls es la lb W' :=
  ⟨h.low.trans (hb.mono h.low.size), (hb.block _ (lt_of_block h.res)).trans h.res, (hb.block _ (lt_of_block h.box)).trans h.box, (hb.block _ (lt_of_block h.last)).trans h.last, h.rows.later hb, h.edges.below hb (Nat.le_refl _)⟩
theorem three_cells17 {b : Nat} {t : TypeId} {x y z : Value} (h : W.heap[b]? = some (.cells #[x, y, z] t (0, 0))) : W.cell? ⟨b, 0, none⟩ = some x ∧ W.cell? ⟨b, 1, none⟩ = some y ∧ W.cell? ⟨b, 2, none⟩ = some z ∧ ∀ i, W.frozen? ⟨b, i, none⟩ = false := by
  simp [World.cell?, World.frozen?, h]
theorem two_cells17 {b : Nat} {t : TypeId} {x y : Value} (h : W.heap[b]? = some (.cells #[x, y] t (0, 0))) : W.cell? ⟨b, 0, none⟩ = some x ∧ W.cell? ⟨b, 1, none⟩ = some y ∧ ∀ i, W.frozen? ⟨b, i, none⟩ = false := by
  simp [World.cell?, World.frozen?, h]
theorem PaS.start (pl : Bool) : PaS w pl (.slice none 0 0) (.slice none 0 0) [] [] [] (-1) 0 (((w.alloc (.cells #[.bool false, .slice none 0 0, .slice none 0 0] 27)).alloc (.cells #[.bool pl, .slice none 0 0, .slice none 0 0] 27)).alloc (.cells #[.int .i64 (-1), .int .i64 0] 55)) := by
  have e1 := heap_alloc_new w (.cells #[.bool false, .slice none 0 0, .slice none 0 0] 27)
  have e2 := heap_alloc_new (w.alloc (.cells #[.bool false, .slice none 0 0, .slice none 0 0] 27)) (.cells #[.bool pl, .slice none 0 0, .slice none 0 0] 27)
  have e3 := heap_alloc_new ((w.alloc (.cells #[.bool false, .slice none 0 0, .slice none 0 0] 27)).alloc (.cells #[.bool pl, .slice none 0 0, .slice none 0 0] 27)) (.cells #[.int .i64 (-1), .int .i64 0] 55)
  rw [World.size_alloc] at e2
  rw [World.size_alloc, World.size_alloc] at e3
  refine ⟨(((Below.refl _ _).alloc (Nat.le_refl _) _).alloc (by simp) _).alloc (by simp; omega) _, ?_, ?_, e3, RowsZ.nil _ _, OwnE.nil _ _⟩
  · rw [Below.heap_alloc _ _ _ (by simp; omega), Below.heap_alloc _ _ _ (by simp)]
    exact e1
  · rw [Below.heap_alloc _ _ _ (by simp)]
    exact e2
/-- One list more. -/
theorem PaS.pushL (h : PaS w pl va (.slice none 0 0) vs ls [] la lb W) {x : Value} {l : List Int} (hx : OwnZ W (w.heap.size + 3) x l) (hx1 : ∀ (u : Nat) (y : Value) (b : Nat), vs[u]? = some y → y.ownBlock = some b → x.ownBlock ≠ some b) (hx2 : ∀ b, va.ownBlock = some b → x.ownBlock ≠ some b) {v' : Value} {w2 : World}
    (h1 : w2.ownsRow (w.heap.size + 3) 34 1 v' (ls.length + 1) (vs ++ [x])) (h2 : (W.alloc (.cells #[x] 34)).grownBy w2 va.ownBlock) (h3 : v'.ownBlock = va.ownBlock ∨ v'.ownBlock = some (W.heap.size + 1)) :
    PaS w pl v' (.slice none 0 0) (vs ++ [x]) (ls ++ [l]) [] la lb (w2.setCell ⟨w.heap.size + 1, 1, none⟩ v') ∧ w2.cell? ⟨w.heap.size + 1, 1, none⟩ = some va ∧ w2.frozen? ⟨w.heap.size + 1, 1, none⟩ = false := by
  have hfar : ∀ b, b < w.heap.size + 3 → some b ≠ va.ownBlock := fun b hb e => by have := (World.ownsRow.lt h.rows.outer b e.symm).1; omega
  have hU := h.later ((Below.refl W.heap.size W).alloc (Nat.le_refl _) (.cells #[x] 34))
  have k5 := (h2.block _ (lt_of_block hU.box) (hfar _ (by omega))).trans hU.box
  have hr := h.rows.grow hx hx1 hx2 h1 h2 h3
  refine ⟨⟨?_, ?_, ?_, ?_, ?_, OwnE.nil _ _⟩, (three_cells17 k5).2.1, (three_cells17 k5).2.2.2 _⟩
  · exact (hU.low.grown h2 (by have := hU.low.size; omega) (fun b hb => by
      have := (World.ownsRow.lt h.rows.outer b hb).1
      omega)).setCell (p := ⟨w.heap.size + 1, 1, none⟩) (by simp) _
  · rw [heap_setCell_other _ ⟨w.heap.size + 1, 1, none⟩ _ _ (by simp), h2.block _ (lt_of_block hU.res) (hfar _ (by omega))]
    exact hU.res
  · rw [heap_setCell_same w2 (w.heap.size + 1) 1 _ _ _ k5]
    simp
  · rw [heap_setCell_other _ ⟨w.heap.size + 1, 1, none⟩ _ _ (by simp), h2.block _ (lt_of_block hU.last) (hfar _ (by omega))]
    exact hU.last
  · exact hr.same fun g hg _ => heap_setCell_other _ ⟨w.heap.size + 1, 1, none⟩ g _ (by simp; omega)
/-- One edge more. -/
theorem PaS.pushE (h : PaS w pl (.slice none 0 0) ve [] [] es la lb W) {p : Int × Int} {v' : Value} {w2 : World}
    (h1 : OwnE w2 (w.heap.size + 3) v' (es ++ [p])) {tmp : Obj} (h2 : (W.alloc tmp).grownBy w2 ve.ownBlock) :
    PaS w pl (.slice none 0 0) v' [] [] (es ++ [p]) la lb (w2.setCell ⟨w.heap.size + 1, 2, none⟩ v') ∧ w2.cell? ⟨w.heap.size + 1, 2, none⟩ = some ve ∧ w2.frozen? ⟨w.heap.size + 1, 2, none⟩ = false := by
  have hfar : ∀ b, b < w.heap.size + 3 → some b ≠ ve.ownBlock := fun b hb e => by have := (World.ownsRow.lt h.edges b e.symm).1; omega
  have hU := h.later ((Below.refl W.heap.size W).alloc (Nat.le_refl _) tmp)
  have k5 := (h2.block _ (lt_of_block hU.box) (hfar _ (by omega))).trans hU.box
  refine ⟨⟨?_, ?_, ?_, ?_, RowsZ.nil _ _, ?_⟩, (three_cells17 k5).2.2.1, (three_cells17 k5).2.2.2 _⟩
  · exact (hU.low.grown h2 (by have := hU.low.size; omega) (fun b hb => by
      have := (World.ownsRow.lt h.edges b hb).1
      omega)).setCell (p := ⟨w.heap.size + 1, 2, none⟩) (by simp) _
  · rw [heap_setCell_other _ ⟨w.heap.size + 1, 2, none⟩ _ _ (by simp), h2.block _ (lt_of_block hU.res) (hfar _ (by omega))]
    exact hU.res
  · rw [heap_setCell_same w2 (w.heap.size + 1) 2 _ _ _ k5]
    simp
  · rw [heap_setCell_other _ ⟨w.heap.size + 1, 2, none⟩ _ _ (by simp), h2.block _ (lt_of_block hU.last) (hfar _ (by omega))]
    exact hU.last
  · refine ⟨h1.1, ?_⟩
    rcases h1.2 with h1 | ⟨g, cap, cur, e, hgB, hh, hr⟩
    · exact .inl h1
    · exact .inr ⟨g, cap, cur, e, hgB, (heap_setCell_other _ ⟨w.heap.size + 1, 2, none⟩ g _ (by simp; omega)).trans hh, hr⟩
theorem PaS.setLast (h : PaS w pl va ve vs ls es la lb W) (x y : Int) : PaS w pl va ve vs ls es x y ((W.setCell ⟨w.heap.size + 1 + 1, 0, none⟩ (.int .i64 x)).setCell ⟨w.heap.size + 1 + 1, 1, none⟩ (.int .i64 y)) := by
  have ho : ∀ b, b ≠ w.heap.size + 1 + 1 → ((W.setCell ⟨w.heap.size + 1 + 1, 0, none⟩ (.int .i64 x)).setCell ⟨w.heap.size + 1 + 1, 1, none⟩ (.int .i64 y)).heap[b]? = W.heap[b]? := fun b hb => by
    rw [heap_setCell_other _ ⟨w.heap.size + 1 + 1, 1, none⟩ b _ hb, heap_setCell_other _ ⟨w.heap.size + 1 + 1, 0, none⟩ b _ hb]
  refine ⟨(h.low.setCell (p := ⟨w.heap.size + 1 + 1, 0, none⟩) (by simp; omega) _).setCell (p := ⟨w.heap.size + 1 + 1, 1, none⟩) (by simp; omega) _, (ho _ (by omega)).trans h.res, (ho _ (by omega)).trans h.box, ?_, h.rows.same fun g hg _ => ho g (by omega), ?_⟩
  · rw [heap_setCell_same _ (w.heap.size + 1 + 1) 1 _ _ _ (heap_setCell_same W (w.heap.size + 1 + 1) 0 _ _ _ h.last)]
    simp
  · refine ⟨h.edges.1, ?_⟩
    rcases h.edges.2 with h1 | ⟨g, cap, cur, e, hgB, hh, hr⟩
    · exact .inl h1
    · exact .inr ⟨g, cap, cur, e, hgB, (ho g (by omega)).trans hh, hr⟩
theorem three_set17 {b : Nat} {t : TypeId} {x y z : Value} (h : W.heap[b]? = some (.cells #[x, y, z] t (0, 0))) (x' y' z' : Value) : (((W.setCell ⟨b, 0, none⟩ x').setCell ⟨b, 1, none⟩ y').setCell ⟨b, 2, none⟩ z').heap[b]? = some (.cells #[x', y', z'] t (0, 0)) := by
  rw [heap_setCell_same _ b 2 _ _ _ (heap_setCell_same _ b 1 _ _ _ (heap_setCell_same W b 0 _ _ _ h))]
  simp
/-- The answer's box is written. -/
theorem PaS.out (h : PaS w pl va ve vs ls es la lb W) (x y z : Value) :
    Below w.heap.size w (((W.setCell ⟨w.heap.size, 0, none⟩ x).setCell ⟨w.heap.size, 1, none⟩ y).setCell ⟨w.heap.size, 2, none⟩ z) ∧ RowsZ (((W.setCell ⟨w.heap.size, 0, none⟩ x).setCell ⟨w.heap.size, 1, none⟩ y).setCell ⟨w.heap.size, 2, none⟩ z) w.heap.size va vs ls ∧ OwnE (((W.setCell ⟨w.heap.size, 0, none⟩ x).setCell ⟨w.heap.size, 1, none⟩ y).setCell ⟨w.heap.size, 2, none⟩ z) w.heap.size ve es := by
  have ho : ∀ b, b ≠ w.heap.size → (((W.setCell ⟨w.heap.size, 0, none⟩ x).setCell ⟨w.heap.size, 1, none⟩ y).setCell ⟨w.heap.size, 2, none⟩ z).heap[b]? = W.heap[b]? := fun b hb => by
    rw [heap_setCell_other _ ⟨w.heap.size, 2, none⟩ b _ hb, heap_setCell_other _ ⟨w.heap.size, 1, none⟩ b _ hb, heap_setCell_other _ ⟨w.heap.size, 0, none⟩ b _ hb]
  refine ⟨((h.low.setCell (p := ⟨w.heap.size, 0, none⟩) (Nat.le_refl _) _).setCell (p := ⟨w.heap.size, 1, none⟩) (Nat.le_refl _) _).setCell (p := ⟨w.heap.size, 2, none⟩) (Nat.le_refl _) _, (h.rows.same fun g hg _ => ho g (by omega)).lower (by omega), ?_⟩
  refine OwnE.lower (B := w.heap.size + 3) ?_ (by omega)
  refine ⟨h.edges.1, ?_⟩
  rcases h.edges.2 with h1 | ⟨g, cap, cur, e, hgB, hh, hr⟩
  · exact .inl h1
  · exact .inr ⟨g, cap, cur, e, hgB, (ho g (by omega)).trans hh, hr⟩
end
end Go.Proofs.YtfjgmbimapkabaaDoor
/-
  The document's own number and lists: may a certificate's lists be written?
-/
namespace Go.Proofs.YtfjgmbimapkabaaDoor
open Go.RowKit

namespace Ce
/-- Lists that can be read. -/
def ListsAt (w : World) (ao : Option Addr) (ls : List (List Int)) : Prop := ∀ (k : Nat) (l : List Int), ls[k]? = some l → ∃ b o xa xc, ao = some ⟨b, o, none⟩ ∧ w.cell? ⟨b, o + k, none⟩ = some (.slice xa l.length xc) ∧ IntsAt w xa l
theorem ListsAt.later {w w' : World} {ao : Option Addr} {ls : List (List Int)} (h : ListsAt w ao ls) (hb : Below w.heap.size w w') : ListsAt w' ao ls := fun k l hl => by
  obtain ⟨b, o, xa, xc, e, hc, hs⟩ := h k l hl
  exact ⟨b, o, xa, xc, e, (hb.cell (p := ⟨b, o + k, none⟩) (block_lt_of_cell hc)).trans hc, hs.later hb⟩
/-- The lists may be written. -/
def okLs (ls : List (List Int)) : Prop := (∀ l ∈ ls, okL l) ∧ ls.length ≤ 1048576
/-- The edges may be written. -/
def okEs (es : List (Int × Int)) : Prop := okE es ∧ es.length ≤ 4194304
/-- A yes or a no, as p is so. -/
def Says (e : Ending) (p : Prop) : Prop := ∃ t, e = .returned (.bool t) ∧ (t = true ↔ p)
theorem Says.yes {p : Prop} (h : p) : Says (.returned (.bool true)) p := ⟨true, rfl, iff_of_true rfl h⟩
theorem Says.no {p : Prop} (h : ¬ p) : Says (.returned (.bool false)) p := ⟨false, rfl, iff_of_false Bool.false_ne_true h⟩
end Ce

theorem rnumber17_yes {x : Int} (h : Ce.okN x) (w : World) : Calls Tryd.prog 34 #[.int .i64 x] w fun e w' => e = .returned (.bool true) ∧ w' = w := by
  obtain ⟨h0, h1⟩ := h
  go_enter Tryd.func34, Tryd.ntmps34
  go_wp2
  go_ret
  exact ⟨rfl, rfl⟩
theorem rnumber17_no {x : Int} (h : ¬ Ce.okN x) (w : World) : Calls Tryd.prog 34 #[.int .i64 x] w fun e w' => e = .returned (.bool false) ∧ w' = w := by
  unfold Ce.okN at h
  by_cases h0 : 0 ≤ x
  · have h1 : ¬ x ≤ 999999999 := fun h1 => h ⟨h0, h1⟩
    clear h
    go_enter Tryd.func34, Tryd.ntmps34
    go_wp2
    go_ret
    exact ⟨rfl, rfl⟩
  · clear h
    go_enter Tryd.func34, Tryd.ntmps34
    go_wp2
    go_ret
    exact ⟨rfl, rfl⟩

set_option maxRecDepth 100000 in
set_option maxHeartbeats 4000000 in
theorem rlists17_any {w : World} {ao : Option Addr} {c : Nat} {ls : List (List Int)} (h : Ce.ListsAt w ao ls) (hs : ls.length ≤ 4611686018427387904) (hl : ∀ l ∈ ls, l.length ≤ 4611686018427387904) :
    Calls Tryd.prog 20 #[.slice ao ls.length c] w fun e w' => Ce.Says e (Ce.okLs ls) ∧ Below w.heap.size w w' := by
  obtain ⟨n, hn⟩ : ∃ n, ls.length = n := ⟨_, rfl⟩
  rw [hn] at hs ⊢
  have HS := Nu.hid h
  have HL := Nu.hid hl
  have HN := Nu.hid hn
  clear h hl hn
  go_enter Tryd.func20, Tryd.ntmps20
  go_wp2
  go_loopw [3] (fun iv wr => ∃ k : Nat, k ≤ n ∧ iv = .int .i64 (k : Int) ∧ (∀ i l, i < k → ls[i]? = some l → Ce.okL l) ∧ Below w.heap.size w wr) (fun iv _ => n - (intOf iv).toNat)
  case atStart => exact ⟨0, Nat.zero_le _, rfl, fun i l h => by omega, Below.refl _ _⟩
  case round =>
    obtain ⟨k, hk, rfl, hok, hbw⟩ := hrel
    have HOK := Nu.hid hok
    have HBW := Nu.hid hbw
    clear hok hbw
    by_cases hlt : k < n
    · have hlti : (k : Int) < (n : Int) := by omega
      obtain ⟨l, hl⟩ : ∃ l, ls[k]? = some l := ⟨_, List.getElem?_eq_getElem (by have := HN.out; omega)⟩
      have hll := HL.out l (List.mem_of_getElem? hl)
      obtain ⟨m, hm⟩ : ∃ m, l.length = m := ⟨_, rfl⟩
      have HLK := Nu.hid hl
      have HM := Nu.hid hm
      rw [hm] at hll
      clear hl hm
      go_wp2
      go_loopw [4] (fun jv wr => ∃ j : Nat, j ≤ m ∧ jv = .int .i64 (j : Int) ∧ (∀ i x, i < j → l[i]? = some x → Ce.okN x ∧ l.headD 0 ≤ x) ∧ Below w.heap.size w wr) (fun jv _ => m - (intOf jv).toNat)
      case atStart => exact ⟨0, Nat.zero_le _, rfl, fun i x h => by omega, HBW.out⟩
      case round =>
        obtain ⟨j, hj, rfl, hokj, hbw2⟩ := hrel
        obtain ⟨b, o, xa, xc, rfl, c0, hia⟩ := (HS.out.later hbw2) k l HLK.out
        rw [HM.out] at c0
        have HOKJ := Nu.hid hokj
        have HB2 := Nu.hid hbw2
        have hbl := block_lt_of_cell c0
        have k0 : (0 : Int) ≤ (k : Int) := by omega
        have j0 : (0 : Int) ≤ (j : Int) := by omega
        clear hokj hbw2
        by_cases hjm : j < m
        · have hjmi : (j : Int) < (m : Int) := by omega
          have hm0 : (0 : Int) < (m : Int) := by omega
          obtain ⟨x, hx⟩ : ∃ x, l[j]? = some x := ⟨_, List.getElem?_eq_getElem (by have := HM.out; omega)⟩
          obtain ⟨y, hy⟩ : ∃ y, l[0]? = some y := ⟨_, List.getElem?_eq_getElem (by have := HM.out; omega)⟩
          have hy0 : l.headD 0 = y := by
            cases l with
            | nil => cases hy
            | cons a r => cases hy; rfl
          obtain ⟨xb, xo, rfl, d0⟩ := hia j x hx
          obtain ⟨xb', xo', e', d1⟩ := hia 0 y hy
          cases e'
          rw [Nat.add_zero] at d1
          have hbx := block_lt_of_cell d0
          have HX := Nu.hid hx
          have HY0 := Nu.hid hy0
          clear hx hy hy0 hia
          by_cases hn1 : Ce.okN x
          · have HNU : Hid (∀ W, Calls Tryd.prog 34 #[.int .i64 x] W fun e w' => e = .returned (.bool true) ∧ w' = W) := fun W => rnumber17_yes hn1 W
            by_cases hxy : x < y
            · have HNO : Hid (¬ Ce.okL l) := fun h => by
                have := (h x (List.mem_of_getElem? HX.out)).2
                have := HY0.out
                omega
              clear hn1
              go_wp2_with fail
              go_quiet ((go_at_call 34; exact Calls.quiet_of_same (HNU.out _)))
              go_wp2
              go_ret
              exact ⟨Ce.Says.no fun h => HNO.out (h.1 l (List.mem_of_getElem? HLK.out)), below_drewN HB2.out _⟩
            · have HNX := Nu.hid hn1
              clear hn1
              go_wp2_with fail
              go_quiet ((go_at_call 34; exact Calls.quiet_of_same (HNU.out _)))
              go_wp2
              go_roundw
              case rel =>
                refine ⟨j + 1, by omega, by go_num, fun i z hi hz => ?_, below_drewN HB2.out _⟩
                by_cases hij : i = j
                · subst hij
                  rw [HX.out] at hz
                  cases hz
                  exact ⟨HNX.out, by have := HY0.out; omega⟩
                · exact HOKJ.out i z (by omega) hz
              case measure => simp [intOf]; omega
          · have HNU : Hid (∀ W, Calls Tryd.prog 34 #[.int .i64 x] W fun e w' => e = .returned (.bool false) ∧ w' = W) := fun W => rnumber17_no hn1 W
            have HNO : Hid (¬ Ce.okL l) := fun h => hn1 (h x (List.mem_of_getElem? HX.out)).1
            clear hn1
            go_wp2_with fail
            go_quiet ((go_at_call 34; exact Calls.quiet_of_same (HNU.out _)))
            go_wp2
            go_ret
            exact ⟨Ce.Says.no fun h => HNO.out (h.1 l (List.mem_of_getElem? HLK.out)), below_drewN HB2.out _⟩
        · have hjmi : ¬ ((j : Int) < (m : Int)) := by omega
          clear hia
          go_wp2
          go_roundw
          case rel =>
            refine ⟨k + 1, by omega, by go_num, fun i z hi hz => ?_, HB2.out⟩
            by_cases hik : i = k
            · subst hik
              rw [HLK.out] at hz
              cases hz
              intro x hx
              obtain ⟨u, hu⟩ := List.getElem?_of_mem hx
              exact HOKJ.out u x (by have := HM.out; have := (List.getElem?_eq_some_iff.1 hu).1; omega) hu
            · exact HOK.out i z (by omega) hz
          case measure => simp [intOf]; omega
    · have hlti : ¬ ((k : Int) < (n : Int)) := by omega
      obtain rfl : k = n := by omega
      by_cases hc : k ≤ 1048576
      · have hci : (k : Int) ≤ 1048576 := by omega
        go_wp2
        go_ret
        refine ⟨Ce.Says.yes ⟨fun l hl => ?_, by have := HN.out; omega⟩, HBW.out⟩
        obtain ⟨i, hi⟩ := List.getElem?_of_mem hl
        exact HOK.out i l (by have := HN.out; have := (List.getElem?_eq_some_iff.1 hi).1; omega) hi
      · have hci : ¬ ((k : Int) ≤ 1048576) := by omega
        go_wp2
        go_ret
        exact ⟨Ce.Says.no fun h => hc (by have := HN.out; have := h.2; omega), HBW.out⟩
end Go.Proofs.YtfjgmbimapkabaaDoor
