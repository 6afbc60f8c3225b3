import Derived.Test.YtfjgmbimapkabaaDoorMg25
import Derived.Test.YtfjgmbimapkabaaDoorMg15
/-
  The program's reader: a line of an edge.
-/
namespace Go.Proofs.YtfjgmbimapkabaaDoor
open Go.RowKit

/-- Boxes of the line's own. -/
structure EdB (w : World) (la lb u v : Int) (W : World) : Prop where
  last : W.heap[w.heap.size]? = some (.cells #[.int .i64 la, .int .i64 lb] 55 (0, 0))
  res : W.heap[w.heap.size + 1]? = some (.cells #[.int .i64 0, .int .i64 0] 55 (0, 0))
  box : W.heap[w.heap.size + 1 + 1]? = some (.cells #[.int .i64 u, .int .i64 v] 55 (0, 0))
section
variable {w W W' : World} {la lb u v : Int}
theorem EdB.kept {b : Nat} (h : EdB w la lb u v W) (hg : W.grownBy W' (some b)) (hb : b < w.heap.size) : EdB w la lb u v W' :=
  ⟨(hg.block _ (lt_of_block h.last) (by simp; omega)).trans h.last, (hg.block _ (lt_of_block h.res) (by simp; omega)).trans h.res, (hg.block _ (lt_of_block h.box) (by simp; omega)).trans h.box⟩
theorem EdB.setU (h : EdB w la lb u v W) (x : Int) : EdB w la lb x v (W.setCell ⟨w.heap.size + 1 + 1, 0, none⟩ (.int .i64 x)) := by
  refine ⟨?_, ?_, ?_⟩
  · rw [heap_setCell_other _ ⟨w.heap.size + 1 + 1, 0, none⟩ _ _ (by simp; omega)]; exact h.last
  · rw [heap_setCell_other _ ⟨w.heap.size + 1 + 1, 0, none⟩ _ _ (by simp)]; exact h.res
  · rw [heap_setCell_same _ _ 0 _ _ _ h.box]; simp
theorem EdB.setV (h : EdB w la lb u v W) (x : Int) : EdB w la lb u x (W.setCell ⟨w.heap.size + 1 + 1, 1, none⟩ (.int .i64 x)) := by
  refine ⟨?_, ?_, ?_⟩
  · rw [heap_setCell_other _ ⟨w.heap.size + 1 + 1, 1, none⟩ _ _ (by simp; omega)]; exact h.last
  · rw [heap_setCell_other _ ⟨w.heap.size + 1 + 1, 1, none⟩ _ _ (by simp)]; exact h.res
  · rw [heap_setCell_same _ _ 1 _ _ _ h.box]; simp
theorem EdB.start : EdB w la lb 0 0 (((w.alloc (.cells #[.int .i64 la, .int .i64 lb] 55)).alloc (.cells #[.int .i64 0, .int .i64 0] 55)).alloc (.cells #[.int .i64 0, .int .i64 0] 55)) := by
  have e1 := heap_alloc_new w (.cells #[.int .i64 la, .int .i64 lb] 55)
  have e2 := heap_alloc_new (w.alloc (.cells #[.int .i64 la, .int .i64 lb] 55)) (.cells #[.int .i64 0, .int .i64 0] 55)
  have e3 := heap_alloc_new ((w.alloc (.cells #[.int .i64 la, .int .i64 lb] 55)).alloc (.cells #[.int .i64 0, .int .i64 0] 55)) (.cells #[.int .i64 0, .int .i64 0] 55)
  rw [World.size_alloc] at e2
  rw [World.size_alloc, World.size_alloc] at e3
  refine ⟨?_, ?_, e3⟩
  · rw [Below.heap_alloc _ _ _ (by simp; omega), Below.heap_alloc _ _ _ (by simp)]
    exact e1
  · rw [Below.heap_alloc _ _ _ (by simp)]
    exact e2
end
theorem grownBy_set_new {w W : World} {r : Option Nat} (h : w.grownBy W r) {b : Nat} (hb : w.heap.size ≤ b) (i : Nat) (x : Value) : w.grownBy (W.setCell ⟨b, i, none⟩ x) r :=
  ⟨h.os, h.tape, h.output, by simpa using h.size, fun k hk hne => (heap_setCell_other _ ⟨b, i, none⟩ k _ (by dsimp only; omega)).trans (h.block k hk hne)⟩
theorem Rtx.set {w : World} {b : Nat} {ao : Option Addr} {n cap p : Nat} {g : Nat → Int} (h : Rtx w b ao n cap p g) {B : Nat} (hB : b < B) (i : Nat) (x : Value) : Rtx (w.setCell ⟨B, i, none⟩ x) b ao n cap p g := by
  refine ⟨(heap_setCell_other _ ⟨B, i, none⟩ b _ (by dsimp only; omega)).trans h.rdr, fun j hj => ?_, h.adr, h.len, h.fit, h.pos⟩
  obtain ⟨hb, tb, tq, e, hc⟩ := h.txt j hj
  refine ⟨hb, tb, tq, e, ?_⟩
  have := (h.adr _ e).1
  rw [World.cell?_of_block (w := w) (heap_setCell_other _ ⟨B, i, none⟩ tb _ (by dsimp only at this ⊢; omega))]
  exact hc

set_option maxHeartbeats 4000000 in
set_option maxRecDepth 100000 in
theorem edge17_any {b : Nat} {ao : Option Addr} {n cap p : Nat} {g : Nat → Int} {w : World} (h : Rtx w b ao n cap p g) (la lb : Int) :
    Calls Tryd.prog 44 #[.pointer (some ⟨b, 0, none⟩), .agg #[.int .i64 la, .int .i64 lb]] w (RdP (Ce.edg (Ce.atF n g) n p (la, lb)) (fun p _ v => v = .agg #[.int .i64 p.1, .int .i64 p.2]) b ao n cap w) := by
  have hbs := h.rdr.lt
  obtain ⟨R, hR⟩ : ∃ R, Ce.edg (Ce.atF n g) n p (la, lb) = R := ⟨_, rfl⟩
  rw [hR]
  unfold Ce.edg at hR
  have HR := Nu.hid hR
  have H0 := Nu.hid (((h.later ((Below.refl _ _).alloc (Nat.le_refl _) (.cells #[.int .i64 la, .int .i64 lb] 55))).later ((Below.refl _ _).alloc (Nat.le_refl _) (.cells #[.int .i64 0, .int .i64 0] 55))).later ((Below.refl _ _).alloc (Nat.le_refl _) (.cells #[.int .i64 0, .int .i64 0] 55)))
  have HG0 := Nu.hid (grownBy_alloc' (grownBy_alloc' (World.grownBy_alloc w (.cells #[.int .i64 la, .int .i64 lb] 55) (some b)) (.cells #[.int .i64 0, .int .i64 0] 55)) (.cells #[.int .i64 0, .int .i64 0] 55))
  have HE0 := Nu.hid (EdB.start (w := w) (la := la) (lb := lb))
  have c1 := h.rdr.place
  clear h hR
  cases hm : Ce.num (Ce.atF n g) n p with
  | none =>
    have hR := HR.out
    rw [hm] at hR
    go_enter Tryd.func44, Tryd.ntmps44
    go_wp2_with (go_at_call 47; refine (H0.out.numNo (least := 0) (fun v k h => by rw [hm] at h; cases h)).mono ?_; rintro e w1 ⟨he, hg1⟩; rw [faultAt] at he; subst he)
    exact ⟨rfl, grownBy_trans HG0.out hg1, .inr ⟨p, hR.symm, rfl⟩⟩
  | some q =>
    obtain ⟨u, k⟩ := q
    have hR := HR.out
    rw [hm] at hR
    dsimp only at hR
    obtain ⟨hok, -, -, hkn⟩ := Ce.num_is H0.out.pos hm
    have hu := hok.1
    have hu9 := hok.2
    have HM := Nu.hid hm
    clear HR hm
    go_enter Tryd.func44, Tryd.ntmps44
    go_wp2_with (go_at_call 47; refine (H0.out.numYes HM.out hu).mono ?_; rintro e w1 ⟨rfl, hg1, h1⟩; have he1 := HE0.out.kept hg1 hbs; have b0 := (two_cells17 he1.box).1; have b1 := (two_cells17 he1.box).2.1; have fz := (two_cells17 he1.box).2.2 0; refine Hid.out ?_)
    refine Nu.hid ?_
    have HG2 := Nu.hid (grownBy_set_new (grownBy_trans HG0.out hg1) (b := w.heap.size + 1 + 1) (by omega) 0 (.int .i64 u))
    have HE2 := Nu.hid (he1.setU u)
    have H2 := Nu.hid (h1.set (B := w.heap.size + 1 + 1) (by omega) 0 (.int .i64 u))
    clear hg1 he1 h1
    by_cases h32 : Ce.atF n g k = 32
    · rw [if_neg (by simpa using h32)] at hR
      have hlt := Ce.in_of H0.out.txt.txt h32 (by decide)
      go_wp2_with (go_at_call 38; refine (H2.out.yes (by decide) h32).mono ?_; rintro e w3 ⟨rfl, hg3, h3⟩; refine Hid.out ?_)
      refine Nu.hid ?_
      have he3 := HE2.out.kept hg3 hbs
      have HG3 := Nu.hid (grownBy_trans HG2.out hg3)
      have d0 := (two_cells17 he3.box).1
      have HE3 := Nu.hid he3
      have H3 := Nu.hid h3
      clear b0 b1 fz hg3 h3 he3
      cases hm2 : Ce.num (Ce.atF n g) n (k + 1) with
      | none =>
        rw [hm2] at hR
        go_wp2_with (go_at_call 47; refine (H3.out.numNo (least := u + 1) (fun v k h => by rw [hm2] at h; cases h)).mono ?_; rintro e w4 ⟨he, hg4⟩; rw [faultAt] at he; subst he)
        exact ⟨rfl, grownBy_trans HG3.out hg4, .inr ⟨k + 1, hR.symm, rfl⟩⟩
      | some q =>
        obtain ⟨v, j⟩ := q
        rw [hm2] at hR
        dsimp only at hR
        have HM2 := Nu.hid hm2
        have HR := Nu.hid hR
        clear hm2
        by_cases huv : v ≤ u
        · rw [if_pos huv] at hR
          go_wp2_with (go_at_call 47; refine (H3.out.numNo (least := u + 1) (fun v' k' h => by rw [HM2.out] at h; cases h; omega)).mono ?_; rintro e w4 ⟨he, hg4⟩; rw [faultAt] at he; subst he)
          exact ⟨rfl, grownBy_trans HG3.out hg4, .inr ⟨k + 1, hR.symm, rfl⟩⟩
        · rw [if_neg huv] at hR
          go_wp2_with (go_at_call 47; refine (H3.out.numYes HM2.out (by omega)).mono ?_; rintro e w4 ⟨rfl, hg4, h4⟩; have he4 := HE3.out.kept hg4 hbs; have c4 := (two_cells17 he4.box).2.1; have fz4 := (two_cells17 he4.box).2.2 1; refine Hid.out ?_)
          refine Nu.hid ?_
          have HG5 := Nu.hid (grownBy_set_new (grownBy_trans HG3.out hg4) (b := w.heap.size + 1 + 1) (by omega) 1 (.int .i64 v))
          have he5 := he4.setV v
          obtain ⟨b0, b1, -⟩ := two_cells17 he5.box
          obtain ⟨l0, l1, -⟩ := two_cells17 he5.last
          have HE5 := Nu.hid he5
          have H5 := Nu.hid (h4.set (B := w.heap.size + 1 + 1) (by omega) 1 (.int .i64 v))
          have hab : Hid (∀ W, Calls Tryd.prog 48 #[.agg #[.int .i64 u, .int .i64 v], .agg #[.int .i64 la, .int .i64 lb]] W fun e w' => e = .returned (.bool (decide (la < u ∨ (la = u ∧ lb < v)))) ∧ Below W.heap.size W w') := fun W => above17 u v la lb W
          clear d0 hg4 he4 h4 he5
          by_cases hab1 : la < u ∨ (la = u ∧ lb < v)
          · rw [decide_eq_true hab1] at hab
            rw [if_neg (by omega)] at hR
            go_wp2_with (go_at_call 48; refine (hab.out _).mono ?_; rintro e w6 ⟨rfl, hb6⟩; refine Hid.out ?_)
            refine Nu.hid ?_
            have H6 := Nu.hid (H5.out.later hb6)
            have HG6 := Nu.hid (grownBy_trans HG5.out (grownBy_of_below (r := some b) hb6))
            have HE6 := Nu.hid (HE5.out.kept (grownBy_of_below (r := some b) hb6) hbs)
            clear hb6 b0 b1 l0 l1 c4 fz4
            by_cases h10 : Ce.atF n g j = 10
            · rw [if_neg (by simpa using h10)] at hR
              go_wp2_with (go_at_call 38; refine (H6.out.yes (by decide) h10).mono ?_; rintro e w7 ⟨rfl, hg7, h7⟩; have he7 := HE6.out.kept hg7 hbs; have b0 := (two_cells17 he7.box).1; have b1 := (two_cells17 he7.box).2.1; have r0 := (two_cells17 he7.res).1; have r1 := (two_cells17 he7.res).2.1; have rf := (two_cells17 he7.res).2.2)
              have k0 : ((w7.setCell ⟨w.heap.size + 1, 0, none⟩ (.int .i64 u)).setCell ⟨w.heap.size + 1, 1, none⟩ (.int .i64 v)).heap[w.heap.size + 1]? = some (.cells #[.int .i64 u, .int .i64 v] 55 (0, 0)) := by
                rw [heap_setCell_same _ _ 1 _ _ _ (heap_setCell_same _ _ 0 _ _ _ he7.res)]
                simp
              refine bodyPost_ret (v := .agg #[.int .i64 u, .int .i64 v]) (results_cell_row (p := 4) (ty := 55) Tryd.results44 _ _ (w.heap.size + 1) 55 _ (0, 0) _ rfl k0 Tryd.underlying55 rfl (by kernel_rfl)) rfl ?_
              exact ⟨grownBy_set_new (grownBy_set_new (grownBy_trans HG6.out hg7) (b := w.heap.size + 1) (by omega) 0 _) (b := w.heap.size + 1) (by omega) 1 _, .inl ⟨(u, v), j + 1, _, hR.symm, rfl, rfl, ((h7.set (B := w.heap.size + 1) (by omega) 0 _).set (B := w.heap.size + 1) (by omega) 1 _).rdr, h7.pos⟩⟩
            · rw [if_pos (by simpa using h10)] at hR
              go_wp2_with (go_at_call 38; refine (H6.out.no h10).mono ?_; rintro e w7 ⟨he, hg7⟩; rw [faultAt] at he; subst he)
              exact ⟨rfl, grownBy_trans HG6.out hg7, .inr ⟨j, hR.symm, rfl⟩⟩
          · rw [decide_eq_false hab1] at hab
            rw [if_pos (by omega)] at hR
            go_wp2_with (go_at_call 48; refine (hab.out _).mono ?_; rintro e w6 ⟨rfl, hb6⟩)
            exact ⟨rfl, grownBy_trans HG5.out (grownBy_of_below hb6), .inr ⟨p, hR.symm, rfl⟩⟩
    · rw [if_pos (by simpa using h32)] at hR
      go_wp2_with (go_at_call 38; refine (H2.out.no h32).mono ?_; rintro e w3 ⟨he, hg3⟩; rw [faultAt] at he; subst he)
      exact ⟨rfl, grownBy_trans HG2.out hg3, .inr ⟨k, hR.symm, rfl⟩⟩
end Go.Proofs.YtfjgmbimapkabaaDoor
