import Derived.Test.YtodlejemkihjnaaDoorMg09
import Derived.Test.YtodlejemkihjnaaDoorMg03
import Derived.Test.YtodlejemkihjnaaDoorMg04
import Derived.Test.YtodlejemkihjnaaDoorMg00
import Derived.Laws.AppendOwnNone
/-
  The document's own Parse.
-/
namespace Go.Proofs.YtodlejemkihjnaaDoor
open Go.RowKit

/-- A certificate in memory of its own. -/
def CertAt (w : World) (B : Nat) (v : Value) (c : Ce.Cert) : Prop := ∃ va ve vs, v = .agg #[.bool c.pl, va, ve] ∧ RowsZ w B va vs c.ar ∧ OwnE w B ve c.es
/-- What Parse answers. -/
def ParsP (r : Ce.Cert × Int × Int) (w : World) (e : Ending) (w' : World) : Prop :=
  Below w.heap.size w w' ∧ ∃ v, e = .returned (.tuple #[v, .int .i64 r.2.1, .int .i64 r.2.2]) ∧ CertAt w' w.heap.size v r.1
theorem certAt_zero (w : World) (B : Nat) : CertAt w B (.agg #[.bool false, .slice none 0 0, .slice none 0 0]) Ce.zero := ⟨_, _, [], rfl, RowsZ.nil _ _, OwnE.nil _ _⟩

theorem parsP_err {R : Ce.Cert × Int × Int} {w w' : World} {p q : Int} (h : (Ce.zero, p, q) = R) (hb : Below w.heap.size w w') : ParsP R w (.returned (.tuple #[.agg #[.bool false, .slice none 0 0, .slice none 0 0], .int .i64 p, .int .i64 q])) w' := by
  subst h
  exact ⟨hb, _, rfl, certAt_zero _ _⟩
theorem HasText.lists {w : World} {ao : Option Addr} {n cap : Nat} {g : Nat → Int} (h : HasText w ao n g) (hn : n ≤ 33554432) :
    (∀ W, Below w.heap.size w W → ∀ i : Nat, i ≤ n → Calls Tryd.prog 16 #[.slice ao n cap, .int .i64 (i : Int)] W (LstP (Ce.lst (Ce.atF n g) n i) W)) ∧
    (∀ W, Below w.heap.size w W → ∀ (i : Nat) (la lb : Int), i ≤ n → Calls Tryd.prog 17 #[.slice ao n cap, .int .i64 (i : Int), .agg #[.int .i64 la, .int .i64 lb]] W (EdgP (Ce.edg (Ce.atF n g) n i (la, lb)) W)) :=
  ⟨fun _ hW i hi => rlist17_any (h.later hW) hn i hi, fun _ hW i la lb hi => redge17_any (h.later hW) hn i hi la lb⟩

/-- 'append(v, e)', v a list of edges of one's own; what else is written. -/
theorem wpList_pushE17 {ops : Array Oper} {rest : List Oper} {o : Oper} {a : Act} {Q : Exit → Act → World → Prop} (hgd : o.guard = none) (s x : Operand)
    (ho : o.op = .call { callee := .builtin .append, args := #[s, x], argTypes := #[23, 23] }) (W : World) (B : Nat) (v : Value) (l : List (Int × Int)) (y z : Int) (hown : OwnE W B v l)
    (hB : B ≤ W.heap.size) (hl : l.length ≤ 8796093022000) (hs : a.eval s = v) (hx : a.eval x = .slice (some ⟨W.heap.size, 0, none⟩) 1 1)
    (h : ∀ v' w', OwnE w' B v' (l ++ [(y, z)]) → (W.alloc (.cells #[.int .i64 y, .int .i64 z] 41)).grownBy w' v.ownBlock → wpList Tryd.prog ops Q rest (a.put o.dst v') w') :
    wpList Tryd.prog ops Q (o :: rest) a (W.alloc (.cells #[.int .i64 y, .int .i64 z] 41)) := by
  obtain ⟨i0, hi, hz0, hz1, hz2⟩ := info_parts Tryd.infoEdge
  refine wpList_append_own _ hgd s x 23 ho B 41 i0 (.agg #[.int .i64 0, .int .i64 0]) 2 16 Tryd.underlying23 hi hz0 hz1 hz2 rfl (by decide) _ _ _ hs (World.ownsRow.alloc hown _) ⟨W.heap.size, 0, none⟩ 1 1 [.int .i64 y, .int .i64 z] hx rfl (new_two_e _ _ rfl _ _ _) (by simp [Value.oneCell']) (by unfold maxLen; omega) (by omega) (by simp; omega) ?_
  intro v' w' hown' hg _
  refine h v' w' ?_ hg
  unfold OwnE
  rw [flatE_snoc, List.length_append]
  exact hown'

/-- 'append(v, x)', v a list of lists of one's own. -/
theorem wpList_pushR17 {ops : Array Oper} {rest : List Oper} {o : Oper} {a : Act} {Q : Exit → Act → World → Prop} (hgd : o.guard = none) (s x : Operand)
    (ho : o.op = .call { callee := .builtin .append, args := #[s, x], argTypes := #[22, 22] }) (W : World) (B : Nat) (v : Value) (vs : List Value) (m : Nat) (xa : Option Addr) (xn xc : Nat) (hown : W.ownsRow B 39 1 v m vs)
    (hB : B ≤ W.heap.size) (hl : m ≤ 4398046511000) (hs : a.eval s = v) (hx : a.eval x = .slice (some ⟨W.heap.size, 0, none⟩) 1 1)
    (h : ∀ v' w', w'.ownsRow B 39 1 v' (m + 1) (vs ++ [.slice xa xn xc]) → (W.alloc (.cells #[.slice xa xn xc] 39)).grownBy w' v.ownBlock → (v'.ownBlock = v.ownBlock ∨ v'.ownBlock = some (W.heap.size + 1)) → wpList Tryd.prog ops Q rest (a.put o.dst v') w') :
    wpList Tryd.prog ops Q (o :: rest) a (W.alloc (.cells #[.slice xa xn xc] 39)) := by
  obtain ⟨i1, hi1, hy0, hy1, hy2⟩ := info_parts Tryd.infoRow
  refine wpList_append_own_at _ hgd s x 22 ho B 39 i1 (.slice none 0 0) 1 24 Tryd.underlying22 hi1 hy0 hy1 hy2 rfl (by decide) _ _ _ hs (World.ownsRow.alloc hown _) ⟨W.heap.size, 0, none⟩ 1 1 [.slice xa xn xc] hx rfl (cell_one_new _ _ _) (by simp [Value.oneCell']) (by unfold maxLen; omega) (by omega) (by simp; omega) ?_
  intro v' w' hown' hg _ h5
  rw [World.size_alloc] at h5
  exact h v' w' hown' hg h5

/-- What Parse has in memory while lists are read. -/
structure PaS (w : World) (pl : Bool) (va ve : Value) (vs : List Value) (ls : List (List Int)) (es : List (Int × Int)) (la lb : Int) (W : World) : Prop where
  low : Below w.heap.size w W
  res : W.heap[w.heap.size]? = some (.cells #[.bool false, .slice none 0 0, .slice none 0 0] 25 (0, 0))
  box : W.heap[w.heap.size + 1]? = some (.cells #[.bool pl, va, ve] 25 (0, 0))
  last : W.heap[w.heap.size + 1 + 1]? = some (.cells #[.int .i64 la, .int .i64 lb] 41 (0, 0))
  rows : RowsZ W (w.heap.size + 3) va vs ls
  edges : OwnE W (w.heap.size + 3) ve es
section
variable {w W W' : World} {pl : Bool} {va ve : Value} {vs : List Value} {ls : List (List Int)} {es : List (Int × Int)} {la lb : Int}
theorem PaS.later (h : PaS w pl va ve vs ls es la lb W) (hb : Below W.heap.size W W') : PaS w pl va ve vs ls es la lb W' :=
  ⟨h.low.trans (hb.mono h.low.size), (hb.block _ (lt_of_block h.res)).trans h.res, (hb.block _ (lt_of_block h.box)).trans h.box, (hb.block _ (lt_of_block h.last)).trans h.last, h.rows.later hb, h.edges.below hb (Nat.le_refl _)⟩
theorem three_cells17 {b : Nat} {t : TypeId} {x y z : Value} (h : W.heap[b]? = some (.cells #[x, y, z] t (0, 0))) : W.cell? ⟨b, 0, none⟩ = some x ∧ W.cell? ⟨b, 1, none⟩ = some y ∧ W.cell? ⟨b, 2, none⟩ = some z ∧ ∀ i, W.frozen? ⟨b, i, none⟩ = false := by
  simp [World.cell?, World.frozen?, h]
theorem two_cells17 {b : Nat} {t : TypeId} {x y : Value} (h : W.heap[b]? = some (.cells #[x, y] t (0, 0))) : W.cell? ⟨b, 0, none⟩ = some x ∧ W.cell? ⟨b, 1, none⟩ = some y ∧ ∀ i, W.frozen? ⟨b, i, none⟩ = false := by
  simp [World.cell?, World.frozen?, h]
theorem PaS.start (pl : Bool) : PaS w pl (.slice none 0 0) (.slice none 0 0) [] [] [] (-1) 0 (((w.alloc (.cells #[.bool false, .slice none 0 0, .slice none 0 0] 25)).alloc (.cells #[.bool pl, .slice none 0 0, .slice none 0 0] 25)).alloc (.cells #[.int .i64 (-1), .int .i64 0] 41)) := by
  have e1 := heap_alloc_new w (.cells #[.bool false, .slice none 0 0, .slice none 0 0] 25)
  have e2 := heap_alloc_new (w.alloc (.cells #[.bool false, .slice none 0 0, .slice none 0 0] 25)) (.cells #[.bool pl, .slice none 0 0, .slice none 0 0] 25)
  have e3 := heap_alloc_new ((w.alloc (.cells #[.bool false, .slice none 0 0, .slice none 0 0] 25)).alloc (.cells #[.bool pl, .slice none 0 0, .slice none 0 0] 25)) (.cells #[.int .i64 (-1), .int .i64 0] 41)
  rw [World.size_alloc] at e2
  rw [World.size_alloc, World.size_alloc] at e3
  refine ⟨(((Below.refl _ _).alloc (Nat.le_refl _) _).alloc (by simp) _).alloc (by simp; omega) _, ?_, ?_, e3, RowsZ.nil _ _, OwnE.nil _ _⟩
  · rw [Below.heap_alloc _ _ _ (by simp; omega), Below.heap_alloc _ _ _ (by simp)]
    exact e1
  · rw [Below.heap_alloc _ _ _ (by simp)]
    exact e2
/-- One list more. -/
theorem PaS.pushL (h : PaS w pl va (.slice none 0 0) vs ls [] la lb W) {x : Value} {l : List Int} (hx : OwnZ W (w.heap.size + 3) x l) (hx1 : ∀ (u : Nat) (y : Value) (b : Nat), vs[u]? = some y → y.ownBlock = some b → x.ownBlock ≠ some b) (hx2 : ∀ b, va.ownBlock = some b → x.ownBlock ≠ some b) {v' : Value} {w2 : World}
    (h1 : w2.ownsRow (w.heap.size + 3) 39 1 v' (ls.length + 1) (vs ++ [x])) (h2 : (W.alloc (.cells #[x] 39)).grownBy w2 va.ownBlock) (h3 : v'.ownBlock = va.ownBlock ∨ v'.ownBlock = some (W.heap.size + 1)) :
    PaS w pl v' (.slice none 0 0) (vs ++ [x]) (ls ++ [l]) [] la lb (w2.setCell ⟨w.heap.size + 1, 1, none⟩ v') ∧ w2.cell? ⟨w.heap.size + 1, 1, none⟩ = some va ∧ w2.frozen? ⟨w.heap.size + 1, 1, none⟩ = false := by
  have hfar : ∀ b, b < w.heap.size + 3 → some b ≠ va.ownBlock := fun b hb e => by have := (World.ownsRow.lt h.rows.outer b e.symm).1; omega
  have hU := h.later ((Below.refl W.heap.size W).alloc (Nat.le_refl _) (.cells #[x] 39))
  have k5 := (h2.block _ (lt_of_block hU.box) (hfar _ (by omega))).trans hU.box
  have hr := h.rows.grow hx hx1 hx2 h1 h2 h3
  refine ⟨⟨?_, ?_, ?_, ?_, ?_, OwnE.nil _ _⟩, (three_cells17 k5).2.1, (three_cells17 k5).2.2.2 _⟩
  · exact (hU.low.grown h2 (by have := hU.low.size; omega) (fun b hb => by
      have := (World.ownsRow.lt h.rows.outer b hb).1
      omega)).setCell (p := ⟨w.heap.size + 1, 1, none⟩) (by simp) _
  · rw [heap_setCell_other _ ⟨w.heap.size + 1, 1, none⟩ _ _ (by simp), h2.block _ (lt_of_block hU.res) (hfar _ (by omega))]
    exact hU.res
  · rw [heap_setCell_same w2 (w.heap.size + 1) 1 _ _ _ k5]
    simp
  · rw [heap_setCell_other _ ⟨w.heap.size + 1, 1, none⟩ _ _ (by simp), h2.block _ (lt_of_block hU.last) (hfar _ (by omega))]
    exact hU.last
  · exact hr.same fun g hg _ => heap_setCell_other _ ⟨w.heap.size + 1, 1, none⟩ g _ (by simp; omega)
/-- One edge more. -/
theorem PaS.pushE (h : PaS w pl (.slice none 0 0) ve [] [] es la lb W) {p : Int × Int} {v' : Value} {w2 : World}
    (h1 : OwnE w2 (w.heap.size + 3) v' (es ++ [p])) {tmp : Obj} (h2 : (W.alloc tmp).grownBy w2 ve.ownBlock) :
    PaS w pl (.slice none 0 0) v' [] [] (es ++ [p]) la lb (w2.setCell ⟨w.heap.size + 1, 2, none⟩ v') ∧ w2.cell? ⟨w.heap.size + 1, 2, none⟩ = some ve ∧ w2.frozen? ⟨w.heap.size + 1, 2, none⟩ = false := by
  have hfar : ∀ b, b < w.heap.size + 3 → some b ≠ ve.ownBlock := fun b hb e => by have := (World.ownsRow.lt h.edges b e.symm).1; omega
  have hU := h.later ((Below.refl W.heap.size W).alloc (Nat.le_refl _) tmp)
  have k5 := (h2.block _ (lt_of_block hU.box) (hfar _ (by omega))).trans hU.box
  refine ⟨⟨?_, ?_, ?_, ?_, RowsZ.nil _ _, ?_⟩, (three_cells17 k5).2.2.1, (three_cells17 k5).2.2.2 _⟩
  · exact (hU.low.grown h2 (by have := hU.low.size; omega) (fun b hb => by
      have := (World.ownsRow.lt h.edges b hb).1
      omega)).setCell (p := ⟨w.heap.size + 1, 2, none⟩) (by simp) _
  · rw [heap_setCell_other _ ⟨w.heap.size + 1, 2, none⟩ _ _ (by simp), h2.block _ (lt_of_block hU.res) (hfar _ (by omega))]
    exact hU.res
  · rw [heap_setCell_same w2 (w.heap.size + 1) 2 _ _ _ k5]
    simp
  · rw [heap_setCell_other _ ⟨w.heap.size + 1, 2, none⟩ _ _ (by simp), h2.block _ (lt_of_block hU.last) (hfar _ (by omega))]
    exact hU.last
  · refine ⟨h1.1, ?_⟩
    rcases h1.2 with h1 | ⟨g, cap, cur, e, hgB, hh, hr⟩
    · exact .inl h1
    · exact .inr ⟨g, cap, cur, e, hgB, (heap_setCell_other _ ⟨w.heap.size + 1, 2, none⟩ g _ (by simp; omega)).trans hh, hr⟩
theorem PaS.setLast (h : PaS w pl va ve vs ls es la lb W) (x y : Int) : PaS w pl va ve vs ls es x y ((W.setCell ⟨w.heap.size + 1 + 1, 0, none⟩ (.int .i64 x)).setCell ⟨w.heap.size + 1 + 1, 1, none⟩ (.int .i64 y)) := by
  have ho : ∀ b, b ≠ w.heap.size + 1 + 1 → ((W.setCell ⟨w.heap.size + 1 + 1, 0, none⟩ (.int .i64 x)).setCell ⟨w.heap.size + 1 + 1, 1, none⟩ (.int .i64 y)).heap[b]? = W.heap[b]? := fun b hb => by
    rw [heap_setCell_other _ ⟨w.heap.size + 1 + 1, 1, none⟩ b _ hb, heap_setCell_other _ ⟨w.heap.size + 1 + 1, 0, none⟩ b _ hb]
  refine ⟨(h.low.setCell (p := ⟨w.heap.size + 1 + 1, 0, none⟩) (by simp; omega) _).setCell (p := ⟨w.heap.size + 1 + 1, 1, none⟩) (by simp; omega) _, (ho _ (by omega)).trans h.res, (ho _ (by omega)).trans h.box, ?_, h.rows.same fun g hg _ => ho g (by omega), ?_⟩
  · rw [heap_setCell_same _ (w.heap.size + 1 + 1) 1 _ _ _ (heap_setCell_same W (w.heap.size + 1 + 1) 0 _ _ _ h.last)]
    simp
  · refine ⟨h.edges.1, ?_⟩
    rcases h.edges.2 with h1 | ⟨g, cap, cur, e, hgB, hh, hr⟩
    · exact .inl h1
    · exact .inr ⟨g, cap, cur, e, hgB, (ho g (by omega)).trans hh, hr⟩
theorem three_set17 {b : Nat} {t : TypeId} {x y z : Value} (h : W.heap[b]? = some (.cells #[x, y, z] t (0, 0))) (x' y' z' : Value) : (((W.setCell ⟨b, 0, none⟩ x').setCell ⟨b, 1, none⟩ y').setCell ⟨b, 2, none⟩ z').heap[b]? = some (.cells #[x', y', z'] t (0, 0)) := by
  rw [heap_setCell_same _ b 2 _ _ _ (heap_setCell_same _ b 1 _ _ _ (heap_setCell_same W b 0 _ _ _ h))]
  simp
/-- The answer's box is written. -/
theorem PaS.out (h : PaS w pl va ve vs ls es la lb W) (x y z : Value) :
    Below w.heap.size w (((W.setCell ⟨w.heap.size, 0, none⟩ x).setCell ⟨w.heap.size, 1, none⟩ y).setCell ⟨w.heap.size, 2, none⟩ z) ∧ RowsZ (((W.setCell ⟨w.heap.size, 0, none⟩ x).setCell ⟨w.heap.size, 1, none⟩ y).setCell ⟨w.heap.size, 2, none⟩ z) w.heap.size va vs ls ∧ OwnE (((W.setCell ⟨w.heap.size, 0, none⟩ x).setCell ⟨w.heap.size, 1, none⟩ y).setCell ⟨w.heap.size, 2, none⟩ z) w.heap.size ve es := by
  have ho : ∀ b, b ≠ w.heap.size → (((W.setCell ⟨w.heap.size, 0, none⟩ x).setCell ⟨w.heap.size, 1, none⟩ y).setCell ⟨w.heap.size, 2, none⟩ z).heap[b]? = W.heap[b]? := fun b hb => by
    rw [heap_setCell_other _ ⟨w.heap.size, 2, none⟩ b _ hb, heap_setCell_other _ ⟨w.heap.size, 1, none⟩ b _ hb, heap_setCell_other _ ⟨w.heap.size, 0, none⟩ b _ hb]
  refine ⟨((h.low.setCell (p := ⟨w.heap.size, 0, none⟩) (Nat.le_refl _) _).setCell (p := ⟨w.heap.size, 1, none⟩) (Nat.le_refl _) _).setCell (p := ⟨w.heap.size, 2, none⟩) (Nat.le_refl _) _, (h.rows.same fun g hg _ => ho g (by omega)).lower (by omega), ?_⟩
  refine OwnE.lower (B := w.heap.size + 3) ?_ (by omega)
  refine ⟨h.edges.1, ?_⟩
  rcases h.edges.2 with h1 | ⟨g, cap, cur, e, hgB, hh, hr⟩
  · exact .inl h1
  · exact .inr ⟨g, cap, cur, e, hgB, (ho g (by omega)).trans hh, hr⟩
end
end Go.Proofs.YtodlejemkihjnaaDoor

/-
  The document's Copy of a certificate: the edges' copy, laid into a box, in whatever order.
-/
namespace Go.Proofs.YtodlejemkihjnaaDoor
open Go.RowKit

theorem blk_later17 {w w' : World} {b : Nat} {o : Obj} (h : w.heap[b]? = some o) (hb : Below w.heap.size w w') : w'.heap[b]? = some o := (hb.block b (Array.getElem?_eq_some_iff.1 h).1).trans h

/-- Operations: 0, 1 the kind; 2 an empty list; 3, 4 the edges; 5 their copy; 6 the certificate; 7 the box; 8 it is stored. -/
structure CyS (w : World) (C : Nat) (pl : Bool) (eo : Option Addr) (ce : Nat) (es : List (Int × Int)) (L : Nat → Bool) (ρ : Nat → Value) (W : World) (b : Nat) (a : Option Addr) (c H : Nat) (x y z : Value) : Prop where
  low : Below w.heap.size w W
  v0 : L 0 = true → ρ 0 = .pointer (some ⟨C, 0, none⟩)
  v1 : L 1 = true → ρ 1 = .bool pl
  v2 : L 2 = true → ρ 2 = .slice (some ⟨b, 0, none⟩) 0 0
  e2 : L 2 = true → L 5 = false → w.heap.size ≤ b ∧ W.heap[b]? = some (.cells #[] 41 (0, 0))
  v3 : L 3 = true → ρ 3 = .pointer (some ⟨C, 2, none⟩)
  v4 : L 4 = true → ρ 4 = .slice eo es.length ce
  v5 : L 5 = true → ρ 5 = .slice a es.length c
  e5 : L 5 = true → OwnE W w.heap.size (.slice a es.length c) es
  v6 : L 6 = true → ρ 6 = .agg #[.bool pl, .slice none 0 0, .slice a es.length c]
  v7 : L 7 = true → ρ 7 = .pointer (some ⟨H, 0, none⟩)
  e7 : L 7 = true → w.heap.size ≤ H ∧ W.heap[H]? = some (.cells #[x, y, z] 25 (0, 0))
  f7 : L 5 = true → L 7 = true → (Value.slice a es.length c).ownBlock ≠ some H
  e8 : L 8 = true → x = .bool pl ∧ y = .slice none 0 0 ∧ z = .slice a es.length c
def CyC (w : World) (C : Nat) (pl : Bool) (eo : Option Addr) (ce : Nat) (es : List (Int × Int)) (L : Nat → Bool) (ρ : Nat → Value) (W : World) : Prop := ∃ b a c H x y z, CyS w C pl eo ce es L ρ W b a c H x y z
section
variable {w : World} {C : Nat} {pl : Bool} {eo : Option Addr} {ce : Nat} {es : List (Int × Int)} {L : Nat → Bool} {ρ : Nat → Value} {W W' : World}
open AnyOrd
theorem CyC.low (h : CyC w C pl eo ce es L ρ W) : Below w.heap.size w W := by
  obtain ⟨b, a, c, H, x, y, z, S⟩ := h
  exact S.low
theorem CyC.start (hb : Below w.heap.size w W) : CyC w C pl eo ce es (fun _ => false) ρ W :=
  ⟨0, none, 0, 0, undef, undef, undef, hb, nofun, nofun, nofun, nofun, nofun, nofun, nofun, nofun, nofun, nofun, nofun, nofun, nofun⟩
theorem CyC.zero (h : CyC w C pl eo ce es L ρ W) : CyC w C pl eo ce es (updB L 0) (upd ρ 0 (.pointer (some ⟨C, 0, none⟩))) W := by
  obtain ⟨b, a, c, H, x, y, z, S⟩ := h
  exact ⟨b, a, c, H, x, y, z, S.low, fun _ => rfl, S.v1, S.v2, S.e2, S.v3, S.v4, S.v5, S.e5, S.v6, S.v7, S.e7, S.f7, S.e8⟩
theorem CyC.one (h : CyC w C pl eo ce es L ρ W) : CyC w C pl eo ce es (updB L 1) (upd ρ 1 (.bool pl)) W := by
  obtain ⟨b, a, c, H, x, y, z, S⟩ := h
  exact ⟨b, a, c, H, x, y, z, S.low, S.v0, fun _ => rfl, S.v2, S.e2, S.v3, S.v4, S.v5, S.e5, S.v6, S.v7, S.e7, S.f7, S.e8⟩
theorem CyC.two (h : CyC w C pl eo ce es L ρ W) : CyC w C pl eo ce es (updB L 2) (upd ρ 2 (.slice (some ⟨W.heap.size, 0, none⟩) 0 0)) (W.alloc (.cells #[] 41)) := by
  obtain ⟨b, a, c, H, x, y, z, S⟩ := h
  have hb : Below W.heap.size W (W.alloc (.cells #[] 41)) := (Below.refl _ _).alloc (Nat.le_refl _) _
  exact ⟨W.heap.size, a, c, H, x, y, z, S.low.trans (hb.mono S.low.size), S.v0, S.v1, fun _ => rfl, fun _ _ => ⟨S.low.size, heap_alloc_new _ _⟩, S.v3, S.v4, S.v5, fun h => (S.e5 h).below hb (Nat.le_refl _), S.v6, S.v7, fun h => ⟨(S.e7 h).1, blk_later17 (S.e7 h).2 hb⟩, S.f7, S.e8⟩
theorem CyC.three (h : CyC w C pl eo ce es L ρ W) : CyC w C pl eo ce es (updB L 3) (upd ρ 3 (.pointer (some ⟨C, 2, none⟩))) W := by
  obtain ⟨b, a, c, H, x, y, z, S⟩ := h
  exact ⟨b, a, c, H, x, y, z, S.low, S.v0, S.v1, S.v2, S.e2, fun _ => rfl, S.v4, S.v5, S.e5, S.v6, S.v7, S.e7, S.f7, S.e8⟩
theorem CyC.four (h : CyC w C pl eo ce es L ρ W) : CyC w C pl eo ce es (updB L 4) (upd ρ 4 (.slice eo es.length ce)) W := by
  obtain ⟨b, a, c, H, x, y, z, S⟩ := h
  exact ⟨b, a, c, H, x, y, z, S.low, S.v0, S.v1, S.v2, S.e2, S.v3, fun _ => rfl, S.v5, S.e5, S.v6, S.v7, S.e7, S.f7, S.e8⟩
theorem CyC.five (h : CyC w C pl eo ce es L ρ W) {b' g' c' : Nat} (hb : Below W.heap.size W W') (h2 : L 2 = true) (h5 : L 5 = false) (h6 : L 6 = false) (h8 : L 8 = false) (hv : ρ 2 = .slice (some ⟨b', 0, none⟩) 0 0) (hg : g' = b' ∨ W.heap.size ≤ g') (ho : ∀ B, B ≤ b' → OwnE W' B (.slice (some ⟨g', 0, none⟩) es.length c') es) :
    CyC w C pl eo ce es (updB L 5) (upd ρ 5 (.slice (some ⟨g', 0, none⟩) es.length c')) W' := by
  obtain ⟨b, a, c, H, x, y, z, S⟩ := h
  have e := (S.v2 h2).symm.trans hv
  obtain rfl : b = b' := by simpa using e
  obtain ⟨hlo, hbb⟩ := S.e2 h2 h5
  refine ⟨b, some ⟨g', 0, none⟩, c', H, x, y, z, S.low.trans (hb.mono S.low.size), S.v0, S.v1, S.v2, fun _ h => (by cases h), S.v3, S.v4, fun _ => rfl, fun _ => ho _ hlo, fun h => ?_, S.v7, fun h => ⟨(S.e7 h).1, blk_later17 (S.e7 h).2 hb⟩, fun _ h7 e => ?_, fun h => ?_⟩
  · rw [show L 6 = true from h] at h6; cases h6
  · have hH := (S.e7 h7).2
    have hlt := lt_of_block hH
    obtain rfl : g' = H := by simpa [Value.ownBlock] using e
    rcases hg with rfl | hg
    · rw [hbb] at hH
      have := congrArg (fun o => match o with | some (Obj.cells _ t _) => t | _ => 25) hH
      revert this
      dsimp only
      decide
    · omega
  · rw [show L 8 = true from h] at h8; cases h8
theorem CyC.six (h : CyC w C pl eo ce es L ρ W) (h5 : L 5 = true) : ∃ a c, ρ 5 = .slice a es.length c ∧ CyC w C pl eo ce es (updB L 6) (upd ρ 6 (.agg #[.bool pl, .slice none 0 0, .slice a es.length c])) W := by
  obtain ⟨b, a, c, H, x, y, z, S⟩ := h
  exact ⟨a, c, S.v5 h5, b, a, c, H, x, y, z, S.low, S.v0, S.v1, S.v2, S.e2, S.v3, S.v4, S.v5, S.e5, fun _ => rfl, S.v7, S.e7, S.f7, S.e8⟩
theorem CyC.seven (h : CyC w C pl eo ce es L ρ W) (h8 : L 8 = false) (x' y' z' : Value) : CyC w C pl eo ce es (updB L 7) (upd ρ 7 (.pointer (some ⟨W.heap.size, 0, none⟩))) (W.alloc (.cells #[x', y', z'] 25)) := by
  obtain ⟨b, a, c, H, x, y, z, S⟩ := h
  have hb : Below W.heap.size W (W.alloc (.cells #[x', y', z'] 25)) := (Below.refl _ _).alloc (Nat.le_refl _) _
  refine ⟨b, a, c, W.heap.size, x', y', z', S.low.trans (hb.mono S.low.size), S.v0, S.v1, S.v2, fun h h' => ⟨(S.e2 h h').1, blk_later17 (S.e2 h h').2 hb⟩, S.v3, S.v4, S.v5, fun h => (S.e5 h).below hb (Nat.le_refl _), S.v6, fun _ => rfl, fun _ => ⟨S.low.size, heap_alloc_new _ _⟩, fun h _ e => ?_, fun h => ?_⟩
  · have := (World.ownsRow.lt (S.e5 h) _ e).2
    omega
  · rw [show L 8 = true from h] at h8; cases h8
theorem CyC.eight (h : CyC w C pl eo ce es L ρ W) (h2 : L 5 = true) (h6 : L 6 = true) (h7 : L 7 = true) (u : Value) : ∃ H a c x y z, ρ 7 = .pointer (some ⟨H, 0, none⟩) ∧ ρ 6 = .agg #[.bool pl, .slice none 0 0, .slice a es.length c] ∧ W.heap[H]? = some (.cells #[x, y, z] 25 (0, 0)) ∧
    CyC w C pl eo ce es (updB L 8) (upd ρ 8 u) (((W.setCell ⟨H, 0, none⟩ (.bool pl)).setCell ⟨H, 1, none⟩ (.slice none 0 0)).setCell ⟨H, 2, none⟩ (.slice a es.length c)) := by
  obtain ⟨b, a, c, H, x, y, z, S⟩ := h
  obtain ⟨hH, hbox⟩ := S.e7 h7
  refine ⟨H, a, c, x, y, z, S.v7 h7, S.v6 h6, hbox, b, a, c, H, _, _, _, ((S.low.setCell hH _).setCell hH _).setCell hH _, S.v0, S.v1, S.v2, fun _ h => ?_, S.v3, S.v4, S.v5, fun h => ?_, S.v6, S.v7, fun _ => ⟨hH, three_set17 hbox _ _ _⟩, S.f7, fun _ => ⟨rfl, rfl, rfl⟩⟩
  · rw [show L 5 = false from h] at h2; cases h2
  · refine row_same (S.e5 h) fun g hg _ _ => ?_
    have hne : g ≠ H := fun e => S.f7 h h7 (by rw [hg, e])
    rw [heap_setCell_other _ ⟨H, 2, none⟩ g _ hne, heap_setCell_other _ ⟨H, 1, none⟩ g _ hne, heap_setCell_other _ ⟨H, 0, none⟩ g _ hne]
theorem CyC.done (h : CyC w C pl eo ce es L ρ W) (hall : ∀ i, i < 9 → L i = true) : ∃ H a c, ρ 7 = .pointer (some ⟨H, 0, none⟩) ∧ w.heap.size ≤ H ∧ W.heap[H]? = some (.cells #[.bool pl, .slice none 0 0, .slice a es.length c] 25 (0, 0)) ∧ OwnE W w.heap.size (.slice a es.length c) es ∧ (Value.slice a es.length c).ownBlock ≠ some H ∧ Below w.heap.size w W := by
  obtain ⟨b, a, c, H, x, y, z, S⟩ := h
  obtain ⟨rfl, rfl, rfl⟩ := S.e8 (hall 8 (by omega))
  exact ⟨H, a, c, S.v7 (hall 7 (by omega)), (S.e7 (hall 7 (by omega))).1, (S.e7 (hall 7 (by omega))).2, S.e5 (hall 5 (by omega)), S.f7 (hall 5 (by omega)) (hall 7 (by omega)), S.low⟩
end
end Go.Proofs.YtodlejemkihjnaaDoor

/-
  Lists of ints wherever they lie; copies of them.
-/
namespace Go.Proofs.YtodlejemkihjnaaDoor
open Go.RowKit

/-- A list of the ints l, wherever it lies; nil has no room. -/
structure Lst (w : World) (ao : Option Addr) (n ca : Nat) (l : List Int) : Prop where
  len : l.length = n
  ints : IntsAt w ao l
  none : ao = none → n = 0 ∧ ca = 0

section
variable {w w' : World} {ao : Option Addr} {n ca : Nat} {l : List Int}
theorem Lst.later (h : Lst w ao n ca l) (hb : Below w.heap.size w w') : Lst w' ao n ca l := ⟨h.len, h.ints.later hb, h.none⟩
theorem IntsBlk.lst {g : Nat} (h : IntsBlk w g l) (hl : l.length = n) : Lst w (some ⟨g, 0, .none⟩) n ca l := ⟨hl, h.at, fun e => by cases e⟩
theorem OwnZ.lst {B : Nat} {v : Value} (h : OwnZ w B v l) : ∃ ao ca, v = .slice ao l.length ca ∧ Lst w ao l.length ca l ∧ (∀ x, ao = some x → B ≤ x.block ∧ x.block < w.heap.size) := by
  rcases h.2 with ⟨rfl, h0⟩ | ⟨g, cap, cur, rfl, hB, hh, _⟩
  · refine ⟨.none, 0, by rw [h0], ⟨rfl, fun j x hj => ?_, fun _ => ⟨h0, rfl⟩⟩, fun x hx => by cases hx⟩
    have := (List.getElem?_eq_some_iff.1 hj).1
    omega
  · obtain ⟨ao, ca, e, ha, hb⟩ := h.form
    cases e
    exact ⟨_, _, rfl, ⟨rfl, ha, fun e => by cases e⟩, hb⟩
end

/-- 'append([]int{}, xs...)': a copy in new memory, of a list wherever it lies. -/
theorem wpList_copy_lst {ops : Array Oper} {rest : List Oper} {o : Oper} {a : Act} {Q : Exit → Act → World → Prop} (hgd : o.guard = none) (s x : Operand)
    (ho : o.op = .call { callee := .builtin .append, args := #[s, x], argTypes := #[39, 39] }) (W : World) (ao : Option Addr) (n ca : Nat) (l : List Int) (hs : a.eval s = .slice (some ⟨W.heap.size, 0, none⟩) 0 0) (hx : a.eval x = .slice ao n ca)
    (hr : Lst W ao n ca l) (hn : n ≤ 17592186043904)
    (h : ∀ gb c w', w'.ownsRow W.heap.size 3 1 (.slice (some ⟨gb, 0, none⟩) n c) n (l.map (Value.int .i64)) → W.heap.size ≤ gb → gb < w'.heap.size → n ≤ c → Below W.heap.size W w' → wpList Tryd.prog ops Q rest (a.put o.dst (.slice (some ⟨gb, 0, none⟩) n c)) w') :
    wpList Tryd.prog ops Q (o :: rest) a (W.alloc (.cells #[] 3)) := by
  obtain ⟨i0, hi, hz0, hz1, hz2⟩ := info_parts Tryd.infoNum
  have hown0 : (W.alloc (.cells #[] 3)).ownsRow W.heap.size 3 1 (.slice (some ⟨W.heap.size, 0, none⟩) 0 0) 0 [] := World.ownsRow_made W #[] 0 (Nat.le_refl _) (Nat.zero_le _) rfl
  have hb0 : Below W.heap.size W (W.alloc (.cells #[] 3)) := (Below.refl _ _).alloc (Nat.le_refl _) _
  rcases ao with _ | y
  · obtain ⟨rfl, rfl⟩ := hr.none rfl
    have hl : l = [] := List.length_eq_zero_iff.1 hr.len
    subst hl
    refine wpList_append_own_none hgd s x 39 ho W.heap.size 3 i0 1 Tryd.underlying39 hi _ 0 [] hs hown0 hx ?_
    exact h _ _ _ hown0 (Nat.le_refl _) (by simp) (Nat.le_refl _) hb0
  · refine wpList_append_own _ hgd s x 39 ho W.heap.size 3 i0 (.int .i64 0) 1 8 Tryd.underlying39 hi hz0 hz1 hz2 rfl (by decide) _ 0 [] hs hown0 y n ca (l.map (Value.int .i64)) hx (by rw [List.length_map, hr.len]; omega) ?_ (ints_oneCell .i64 _) (by unfold maxLen; omega) (by rw [Nat.zero_add]; omega) (by simp) ?_
    · intro j u hj
      rw [List.getElem?_map] at hj
      cases hlj : l[j]? with
      | none => rw [hlj] at hj; cases hj
      | some z =>
        rw [hlj] at hj
        obtain rfl := Option.some.inj hj
        obtain ⟨b, o', e, hc⟩ := hr.ints j z hlj
        cases e
        have ea : ((⟨b, o', none⟩ : Addr).add j) = ⟨b, o' + j, none⟩ := by
          by_cases h0 : j = 0 <;> simp [Addr.add, h0]
        rw [ea]
        exact (World.grownBy_alloc W _ none).cell hc (by simp)
    · intro v' w' hown' hg hiff
      rw [Nat.zero_add, List.nil_append] at hown'
      rcases hown'.2 with ⟨hnil, _⟩ | ⟨gb, c, cur, rfl, hgb, hh, hlc, _⟩
      · have := (hiff.1 hnil).1
        cases this
      · exact h gb c w' hown' hgb (lt_of_block hh) hlc (hb0.grown hg (by simp) (fun q hq => by cases hq; exact Nat.le_refl _))

theorem IsRow.lst {w : World} {a : Option Addr} {len cap : Nat} {zs : List Int} (h : IsRow .i64 8 w a len cap zs) : Lst w a len cap (zs.take len) := by
  refine ⟨h.take, fun j z hj => ?_, fun e => ?_⟩
  · rcases h with ⟨_, rfl, _, rfl⟩ | ⟨x, rfl, hl, hm, hz, hc, hw⟩
    · simp at hj
    · rw [List.getElem?_take] at hj
      by_cases hjl : j < len
      · rw [if_pos hjl] at hj
        have hlt : j < zs.length := by omega
        have hci := hc j hlt
        rw [List.getD_eq_getElem?_getD, hj] at hci
        obtain ⟨b, o, sp⟩ := x
        have hsp : sp = none := by simpa [Addr.add] using World.cell?_spot (hc 0 (by omega))
        subst hsp
        refine ⟨b, o, rfl, ?_⟩
        have e : ((⟨b, o, none⟩ : Addr).add j) = ⟨b, o + j, none⟩ := by
          by_cases h0 : j = 0 <;> simp [Addr.add, h0]
        rw [e] at hci
        exact hci
      · rw [if_neg hjl] at hj
        cases hj
  · rcases h with ⟨_, h1, h2, _⟩ | ⟨x, h1, _⟩
    · exact ⟨h1, h2⟩
    · rw [h1] at e; cases e

theorem IsRow.few {w : World} {a : Option Addr} {len cap : Nat} {zs : List Int} (h : IsRow .i64 8 w a len cap zs) : len ≤ 17592186043904 := by
  have := h.small
  omega

theorem row_lst {w : World} {B g n c : Nat} {l : List Int} (h : w.ownsRow B 3 1 (.slice (some ⟨g, 0, none⟩) n c) n (l.map (Value.int .i64))) (hl : l.length = n) : Lst w (some ⟨g, 0, none⟩) n c l := by
  have hi := ints_in_row h
  exact ⟨hl, fun j x hj => ⟨g, 0, rfl, by rw [Nat.zero_add]; exact hi.cell hj⟩, fun e => by cases e⟩

end Go.Proofs.YtodlejemkihjnaaDoor
