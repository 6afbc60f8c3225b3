import Derived.Test.YtodlejemkihjnaaDoorMg22
import Derived.Test.YtodlejemkihjnaaDoorMg10
import Derived.Test.YtodlejemkihjnaaDoorMg15
import Derived.Test.YtodlejemkihjnaaDoorMg14
/-
  The program's reader: a line of an edge.
-/
namespace Go.Proofs.YtodlejemkihjnaaDoor
open Go.RowKit

/-- Boxes of the line's own. -/
structure EdB (w : World) (la lb u v : Int) (W : World) : Prop where
  last : W.heap[w.heap.size]? = some (.cells #[.int .i64 la, .int .i64 lb] 41 (0, 0))
  res : W.heap[w.heap.size + 1]? = some (.cells #[.int .i64 0, .int .i64 0] 41 (0, 0))
  box : W.heap[w.heap.size + 1 + 1]? = some (.cells #[.int .i64 u, .int .i64 v] 41 (0, 0))
section
variable {w W W' : World} {la lb u v : Int}
theorem EdB.kept {b : Nat} (h : EdB w la lb u v W) (hg : W.grownBy W' (some b)) (hb : b < w.heap.size) : EdB w la lb u v W' :=
  ⟨(hg.block _ (lt_of_block h.last) (by simp; omega)).trans h.last, (hg.block _ (lt_of_block h.res) (by simp; omega)).trans h.res, (hg.block _ (lt_of_block h.box) (by simp; omega)).trans h.box⟩
theorem EdB.setU (h : EdB w la lb u v W) (x : Int) : EdB w la lb x v (W.setCell ⟨w.heap.size + 1 + 1, 0, none⟩ (.int .i64 x)) := by
  refine ⟨?_, ?_, ?_⟩
  · rw [heap_setCell_other _ ⟨w.heap.size + 1 + 1, 0, none⟩ _ _ (by simp; omega)]; exact h.last
  · rw [heap_setCell_other _ ⟨w.heap.size + 1 + 1, 0, none⟩ _ _ (by simp)]; exact h.res
  · rw [heap_setCell_same _ _ 0 _ _ _ h.box]; simp
theorem EdB.setV (h : EdB w la lb u v W) (x : Int) : EdB w la lb u x (W.setCell ⟨w.heap.size + 1 + 1, 1, none⟩ (.int .i64 x)) := by
  refine ⟨?_, ?_, ?_⟩
  · rw [heap_setCell_other _ ⟨w.heap.size + 1 + 1, 1, none⟩ _ _ (by simp; omega)]; exact h.last
  · rw [heap_setCell_other _ ⟨w.heap.size + 1 + 1, 1, none⟩ _ _ (by simp)]; exact h.res
  · rw [heap_setCell_same _ _ 1 _ _ _ h.box]; simp
theorem EdB.start : EdB w la lb 0 0 (((w.alloc (.cells #[.int .i64 la, .int .i64 lb] 41)).alloc (.cells #[.int .i64 0, .int .i64 0] 41)).alloc (.cells #[.int .i64 0, .int .i64 0] 41)) := by
  have e1 := heap_alloc_new w (.cells #[.int .i64 la, .int .i64 lb] 41)
  have e2 := heap_alloc_new (w.alloc (.cells #[.int .i64 la, .int .i64 lb] 41)) (.cells #[.int .i64 0, .int .i64 0] 41)
  have e3 := heap_alloc_new ((w.alloc (.cells #[.int .i64 la, .int .i64 lb] 41)).alloc (.cells #[.int .i64 0, .int .i64 0] 41)) (.cells #[.int .i64 0, .int .i64 0] 41)
  rw [World.size_alloc] at e2
  rw [World.size_alloc, World.size_alloc] at e3
  refine ⟨?_, ?_, e3⟩
  · rw [Below.heap_alloc _ _ _ (by simp; omega), Below.heap_alloc _ _ _ (by simp)]
    exact e1
  · rw [Below.heap_alloc _ _ _ (by simp)]
    exact e2
end
theorem grownBy_set_new {w W : World} {r : Option Nat} (h : w.grownBy W r) {b : Nat} (hb : w.heap.size ≤ b) (i : Nat) (x : Value) : w.grownBy (W.setCell ⟨b, i, none⟩ x) r :=
  ⟨h.os, h.tape, h.output, by simpa using h.size, fun k hk hne => (heap_setCell_other _ ⟨b, i, none⟩ k _ (by dsimp only; omega)).trans (h.block k hk hne)⟩
theorem Rtx.set {w : World} {b : Nat} {ao : Option Addr} {n cap p : Nat} {g : Nat → Int} (h : Rtx w b ao n cap p g) {B : Nat} (hB : b < B) (i : Nat) (x : Value) : Rtx (w.setCell ⟨B, i, none⟩ x) b ao n cap p g := by
  refine ⟨(heap_setCell_other _ ⟨B, i, none⟩ b _ (by dsimp only; omega)).trans h.rdr, fun j hj => ?_, h.adr, h.len, h.fit, h.pos⟩
  obtain ⟨hb, tb, tq, e, hc⟩ := h.txt j hj
  refine ⟨hb, tb, tq, e, ?_⟩
  have := (h.adr _ e).1
  rw [World.cell?_of_block (w := w) (heap_setCell_other _ ⟨B, i, none⟩ tb _ (by dsimp only at this ⊢; omega))]
  exact hc

set_option maxHeartbeats 4000000 in
set_option maxRecDepth 100000 in
theorem edge17_any {b : Nat} {ao : Option Addr} {n cap p : Nat} {g : Nat → Int} {w : World} (h : Rtx w b ao n cap p g) (la lb : Int) :
    Calls Tryd.prog 37 #[.pointer (some ⟨b, 0, none⟩), .agg #[.int .i64 la, .int .i64 lb]] w (RdP (Ce.edg (Ce.atF n g) n p (la, lb)) (fun p _ v => v = .agg #[.int .i64 p.1, .int .i64 p.2]) b ao n cap w) := by
  have hbs := h.rdr.lt
  obtain ⟨R, hR⟩ : ∃ R, Ce.edg (Ce.atF n g) n p (la, lb) = R := ⟨_, rfl⟩
  rw [hR]
  unfold Ce.edg at hR
  have HR := Nu.hid hR
  have H0 := Nu.hid (((h.later ((Below.refl _ _).alloc (Nat.le_refl _) (.cells #[.int .i64 la, .int .i64 lb] 41))).later ((Below.refl _ _).alloc (Nat.le_refl _) (.cells #[.int .i64 0, .int .i64 0] 41))).later ((Below.refl _ _).alloc (Nat.le_refl _) (.cells #[.int .i64 0, .int .i64 0] 41)))
  have HG0 := Nu.hid (grownBy_alloc' (grownBy_alloc' (World.grownBy_alloc w (.cells #[.int .i64 la, .int .i64 lb] 41) (some b)) (.cells #[.int .i64 0, .int .i64 0] 41)) (.cells #[.int .i64 0, .int .i64 0] 41))
  have HE0 := Nu.hid (EdB.start (w := w) (la := la) (lb := lb))
  have c1 := h.rdr.place
  clear h hR
  cases hm : Ce.num (Ce.atF n g) n p with
  | none =>
    have hR := HR.out
    rw [hm] at hR
    go_enter Tryd.func37, Tryd.ntmps37
    go_wp2_with (go_at_call 40; refine (H0.out.numNo (least := 0) (fun v k h => by rw [hm] at h; cases h)).mono ?_; rintro e w1 ⟨he, hg1⟩; rw [faultAt] at he; subst he)
    exact ⟨rfl, grownBy_trans HG0.out hg1, .inr ⟨p, hR.symm, rfl⟩⟩
  | some q =>
    obtain ⟨u, k⟩ := q
    have hR := HR.out
    rw [hm] at hR
    dsimp only at hR
    obtain ⟨hok, -, -, hkn⟩ := Ce.num_is H0.out.pos hm
    have hu := hok.1
    have hu9 := hok.2
    have HM := Nu.hid hm
    clear HR hm
    go_enter Tryd.func37, Tryd.ntmps37
    go_wp2_with (go_at_call 40; refine (H0.out.numYes HM.out hu).mono ?_; rintro e w1 ⟨rfl, hg1, h1⟩; have he1 := HE0.out.kept hg1 hbs; have b0 := (two_cells17 he1.box).1; have b1 := (two_cells17 he1.box).2.1; have fz := (two_cells17 he1.box).2.2 0; refine Hid.out ?_)
    refine Nu.hid ?_
    have HG2 := Nu.hid (grownBy_set_new (grownBy_trans HG0.out hg1) (b := w.heap.size + 1 + 1) (by omega) 0 (.int .i64 u))
    have HE2 := Nu.hid (he1.setU u)
    have H2 := Nu.hid (h1.set (B := w.heap.size + 1 + 1) (by omega) 0 (.int .i64 u))
    clear hg1 he1 h1
    by_cases h32 : Ce.atF n g k = 32
    · rw [if_neg (by simpa using h32)] at hR
      have hlt := Ce.in_of H0.out.txt.txt h32 (by decide)
      go_wp2_with (go_at_call 31; refine (H2.out.yes (by decide) h32).mono ?_; rintro e w3 ⟨rfl, hg3, h3⟩; refine Hid.out ?_)
      refine Nu.hid ?_
      have he3 := HE2.out.kept hg3 hbs
      have HG3 := Nu.hid (grownBy_trans HG2.out hg3)
      have d0 := (two_cells17 he3.box).1
      have HE3 := Nu.hid he3
      have H3 := Nu.hid h3
      clear b0 b1 fz hg3 h3 he3
      cases hm2 : Ce.num (Ce.atF n g) n (k + 1) with
      | none =>
        rw [hm2] at hR
        go_wp2_with (go_at_call 40; refine (H3.out.numNo (least := u + 1) (fun v k h => by rw [hm2] at h; cases h)).mono ?_; rintro e w4 ⟨he, hg4⟩; rw [faultAt] at he; subst he)
        exact ⟨rfl, grownBy_trans HG3.out hg4, .inr ⟨k + 1, hR.symm, rfl⟩⟩
      | some q =>
        obtain ⟨v, j⟩ := q
        rw [hm2] at hR
        dsimp only at hR
        have HM2 := Nu.hid hm2
        have HR := Nu.hid hR
        clear hm2
        by_cases huv : v ≤ u
        · rw [if_pos huv] at hR
          go_wp2_with (go_at_call 40; refine (H3.out.numNo (least := u + 1) (fun v' k' h => by rw [HM2.out] at h; cases h; omega)).mono ?_; rintro e w4 ⟨he, hg4⟩; rw [faultAt] at he; subst he)
          exact ⟨rfl, grownBy_trans HG3.out hg4, .inr ⟨k + 1, hR.symm, rfl⟩⟩
        · rw [if_neg huv] at hR
          go_wp2_with (go_at_call 40; refine (H3.out.numYes HM2.out (by omega)).mono ?_; rintro e w4 ⟨rfl, hg4, h4⟩; have he4 := HE3.out.kept hg4 hbs; have c4 := (two_cells17 he4.box).2.1; have fz4 := (two_cells17 he4.box).2.2 1; refine Hid.out ?_)
          refine Nu.hid ?_
          have HG5 := Nu.hid (grownBy_set_new (grownBy_trans HG3.out hg4) (b := w.heap.size + 1 + 1) (by omega) 1 (.int .i64 v))
          have he5 := he4.setV v
          obtain ⟨b0, b1, -⟩ := two_cells17 he5.box
          obtain ⟨l0, l1, -⟩ := two_cells17 he5.last
          have HE5 := Nu.hid he5
          have H5 := Nu.hid (h4.set (B := w.heap.size + 1 + 1) (by omega) 1 (.int .i64 v))
          have hab : Hid (∀ W, Calls Tryd.prog 41 #[.agg #[.int .i64 u, .int .i64 v], .agg #[.int .i64 la, .int .i64 lb]] W fun e w' => e = .returned (.bool (decide (la < u ∨ (la = u ∧ lb < v)))) ∧ Below W.heap.size W w') := fun W => above17 u v la lb W
          clear d0 hg4 he4 h4 he5
          by_cases hab1 : la < u ∨ (la = u ∧ lb < v)
          · rw [decide_eq_true hab1] at hab
            rw [if_neg (by omega)] at hR
            go_wp2_with (go_at_call 41; refine (hab.out _).mono ?_; rintro e w6 ⟨rfl, hb6⟩; refine Hid.out ?_)
            refine Nu.hid ?_
            have H6 := Nu.hid (H5.out.later hb6)
            have HG6 := Nu.hid (grownBy_trans HG5.out (grownBy_of_below (r := some b) hb6))
            have HE6 := Nu.hid (HE5.out.kept (grownBy_of_below (r := some b) hb6) hbs)
            clear hb6 b0 b1 l0 l1 c4 fz4
            by_cases h10 : Ce.atF n g j = 10
            · rw [if_neg (by simpa using h10)] at hR
              go_wp2_with (go_at_call 31; refine (H6.out.yes (by decide) h10).mono ?_; rintro e w7 ⟨rfl, hg7, h7⟩; have he7 := HE6.out.kept hg7 hbs; have b0 := (two_cells17 he7.box).1; have b1 := (two_cells17 he7.box).2.1; have r0 := (two_cells17 he7.res).1; have r1 := (two_cells17 he7.res).2.1; have rf := (two_cells17 he7.res).2.2)
              have k0 : ((w7.setCell ⟨w.heap.size + 1, 0, none⟩ (.int .i64 u)).setCell ⟨w.heap.size + 1, 1, none⟩ (.int .i64 v)).heap[w.heap.size + 1]? = some (.cells #[.int .i64 u, .int .i64 v] 41 (0, 0)) := by
                rw [heap_setCell_same _ _ 1 _ _ _ (heap_setCell_same _ _ 0 _ _ _ he7.res)]
                simp
              refine bodyPost_ret (v := .agg #[.int .i64 u, .int .i64 v]) (results_cell_row (p := 4) (ty := 41) Tryd.results37 _ _ (w.heap.size + 1) 41 _ (0, 0) _ rfl k0 Tryd.underlying41 rfl (by kernel_rfl)) rfl ?_
              exact ⟨grownBy_set_new (grownBy_set_new (grownBy_trans HG6.out hg7) (b := w.heap.size + 1) (by omega) 0 _) (b := w.heap.size + 1) (by omega) 1 _, .inl ⟨(u, v), j + 1, _, hR.symm, rfl, rfl, ((h7.set (B := w.heap.size + 1) (by omega) 0 _).set (B := w.heap.size + 1) (by omega) 1 _).rdr, h7.pos⟩⟩
            · rw [if_pos (by simpa using h10)] at hR
              go_wp2_with (go_at_call 31; refine (H6.out.no h10).mono ?_; rintro e w7 ⟨he, hg7⟩; rw [faultAt] at he; subst he)
              exact ⟨rfl, grownBy_trans HG6.out hg7, .inr ⟨j, hR.symm, rfl⟩⟩
          · rw [decide_eq_false hab1] at hab
            rw [if_pos (by omega)] at hR
            go_wp2_with (go_at_call 41; refine (hab.out _).mono ?_; rintro e w6 ⟨rfl, hb6⟩)
            exact ⟨rfl, grownBy_trans HG5.out (grownBy_of_below hb6), .inr ⟨p, hR.symm, rfl⟩⟩
    · rw [if_pos (by simpa using h32)] at hR
      go_wp2_with (go_at_call 31; refine (H2.out.no h32).mono ?_; rintro e w3 ⟨he, hg3⟩; rw [faultAt] at he; subst he)
      exact ⟨rfl, grownBy_trans HG2.out hg3, .inr ⟨k, hR.symm, rfl⟩⟩
end Go.Proofs.YtodlejemkihjnaaDoor

/-
  The program's proof of edges: has the form room for it?
-/
namespace Go.Proofs.YtodlejemkihjnaaDoor
open Go.RowKit

/-- What part's fits has seen. -/
structure FitE (w : World) (es : List (Int × Int)) (k : Nat) (la lb : Int) (W : World) : Prop where
  low : Below w.heap.size w W
  last : W.heap[w.heap.size]? = some (.cells #[.int .i64 la, .int .i64 lb] 41 (0, 0))
  one : ∀ (i : Nat) (p : Int × Int), i < k → es[i]? = some p → Ce.okN p.1 ∧ Ce.okN p.2 ∧ p.1 < p.2
  two : ∀ (i : Nat) (p q : Int × Int), i + 1 < k → es[i]? = some p → es[i + 1]? = some q → p.1 < q.1 ∨ (p.1 = q.1 ∧ p.2 < q.2)
  zero : k = 0 → la = 0 ∧ lb = 0
  prev : ∀ (j : Nat) (p : Int × Int), k = j + 1 → es[j]? = some p → (la, lb) = p
section
variable {w W W' : World} {es : List (Int × Int)} {k : Nat} {la lb u v : Int}
theorem FitE.later (h : FitE w es k la lb W) (hb : Below W.heap.size W W') : FitE w es k la lb W' :=
  ⟨h.low.trans (hb.mono h.low.size), (hb.block _ (lt_of_block h.last)).trans h.last, h.one, h.two, h.zero, h.prev⟩
theorem FitE.more (h : FitE w es k la lb W) (he : es[k]? = some (u, v)) (h1 : Ce.okN u ∧ Ce.okN v ∧ u < v) (h2 : la < u ∨ (la = u ∧ lb < v)) : FitE w es (k + 1) u v ((W.setCell ⟨w.heap.size, 0, none⟩ (.int .i64 u)).setCell ⟨w.heap.size, 1, none⟩ (.int .i64 v)) := by
  refine ⟨(h.low.setCell (p := ⟨w.heap.size, 0, none⟩) (Nat.le_refl _) _).setCell (p := ⟨w.heap.size, 1, none⟩) (Nat.le_refl _) _, ?_, fun i p hi hp => ?_, fun i p q hi hp hq => ?_, fun h => absurd h (by omega), fun j p hj hp => ?_⟩
  · rw [heap_setCell_same _ _ 1 _ _ _ (heap_setCell_same W _ 0 _ _ _ h.last)]
    simp
  · by_cases hik : i = k
    · subst hik
      rw [he] at hp
      cases hp
      exact h1
    · exact h.one i p (by omega) hp
  · by_cases hik : i + 1 = k
    · have := h.prev i p (by omega) hp
      subst this
      rw [hik, he] at hq
      cases hq
      exact h2
    · exact h.two i p q (by omega) hp hq
  · obtain rfl : k = j := by omega
    rw [he] at hp
    cases hp
    rfl
theorem FitE.no (h : FitE w es k la lb W) (he : es[k]? = some (u, v)) (hn : ¬ ((Ce.okN u ∧ Ce.okN v ∧ u < v) ∧ (la < u ∨ (la = u ∧ lb < v)))) : ¬ Ce.okEs es := fun ho => by
  have h1 := ho.1.1 (u, v) (List.mem_of_getElem? he)
  dsimp only at h1
  refine hn ⟨h1, ?_⟩
  cases k with
  | zero =>
    obtain ⟨rfl, rfl⟩ := h.zero rfl
    have := h1.1.1
    have := h1.2.2
    omega
  | succ j =>
    have hj : j < es.length := by have := (List.getElem?_eq_some_iff.1 he).1; omega
    have hp : es[j]? = some es[j] := List.getElem?_eq_getElem hj
    have e := h.prev j _ rfl hp
    have h2 := ho.1.2 j _ (u, v) hp he
    rw [← e] at h2
    exact h2
theorem FitE.yes (h : FitE w es es.length la lb W) (hl : es.length ≤ 4194304) : Ce.okEs es := by
  refine ⟨⟨fun p hp => ?_, fun i p q hp hq => h.two i p q (List.getElem?_eq_some_iff.1 hq).1 hp hq⟩, hl⟩
  obtain ⟨i, hi⟩ := List.getElem?_of_mem hp
  exact h.one i p (List.getElem?_eq_some_iff.1 hi).1 hi
theorem FitE.start (w : World) (es : List (Int × Int)) : FitE w es 0 0 0 (w.alloc (.cells #[.int .i64 0, .int .i64 0] 41)) :=
  ⟨(Below.refl _ _).alloc (Nat.le_refl _) _, heap_alloc_new w _, fun i p h => by omega, fun i p q h => by omega, fun _ => ⟨rfl, rfl⟩, fun j p h => by omega⟩
end

set_option maxRecDepth 100000 in
set_option maxHeartbeats 4000000 in
theorem pfitsE17_any {w : World} {ao : Option Addr} {c : Nat} {es : List (Int × Int)} (h : EdgesAt w ao es) (hs : es.length ≤ 4611686018427387904) :
    Calls Tryd.prog 81 #[.slice ao es.length c] w fun e w' => Ce.Says e (Ce.okEs es) ∧ Below w.heap.size w w' := by
  obtain ⟨n, hn⟩ : ∃ n, es.length = n := ⟨_, rfl⟩
  rw [hn] at hs ⊢
  have HS := Nu.hid h
  have HN := Nu.hid hn
  clear h hn
  by_cases hc : 4194304 < n
  · have hci : (4194304 : Int) < (n : Int) := by omega
    go_enter Tryd.func81, Tryd.ntmps81
    go_wp2
    go_ret
    exact ⟨Ce.Says.no fun h => by have := h.2; have := HN.out; omega, Below.refl _ _⟩
  · have hci : ¬ ((4194304 : Int) < (n : Int)) := by omega
    go_enter Tryd.func81, Tryd.ntmps81
    go_wp2
    go_loopw [11] (fun iv wr => ∃ (k : Nat) (la lb : Int), k ≤ n ∧ iv = .int .i64 (k : Int) ∧ FitE w es k la lb wr) (fun iv _ => n - (intOf iv).toNat)
    case atStart => exact ⟨0, 0, 0, Nat.zero_le _, rfl, FitE.start w es⟩
    case round =>
      obtain ⟨k, la, lb, hk, rfl, hf⟩ := hrel
      have HF := Nu.hid hf
      clear hf
      by_cases hlt : k < n
      · have hlti : (k : Int) < (n : Int) := by omega
        obtain ⟨⟨u, v⟩, he⟩ : ∃ p, es[k]? = some p := ⟨_, List.getElem?_eq_getElem (by have := HN.out; omega)⟩
        obtain ⟨b, o, rfl, g0, g1⟩ := (HS.out.later HF.out.low) k (u, v) he
        dsimp only at g0 g1
        have HE := Nu.hid he
        have k0 : (0 : Int) ≤ (k : Int) := by omega
        have hf2 := HF.out.later ((Below.refl _ _).alloc (Nat.le_refl _) (.cells #[.int .i64 u, .int .i64 v] 41))
        obtain ⟨l0, l1, lf⟩ := two_cells17 hf2.last
        have HF2 := Nu.hid hf2
        have hDU : Hid (∀ W, Calls Tryd.prog 80 #[.int .i64 u] W fun e w' => e = .returned (.bool (decide (0 ≤ u ∧ u ≤ 999999999))) ∧ w' = W) := fun W => pdigits17 u W
        have hDV : Hid (∀ W, Calls Tryd.prog 80 #[.int .i64 v] W fun e w' => e = .returned (.bool (decide (0 ≤ v ∧ v ≤ 999999999))) ∧ w' = W) := fun W => pdigits17 v W
        have hAB : Hid (∀ W, Calls Tryd.prog 41 #[.agg #[.int .i64 u, .int .i64 v], .agg #[.int .i64 la, .int .i64 lb]] W fun e w' => e = .returned (.bool (decide (la < u ∨ (la = u ∧ lb < v)))) ∧ Below W.heap.size W w') := fun W => above17 u v la lb W
        clear he hf2
        by_cases hu : 0 ≤ u ∧ u ≤ 999999999
        · rw [decide_eq_true hu] at hDU
          by_cases hv : 0 ≤ v ∧ v ≤ 999999999
          · rw [decide_eq_true hv] at hDV
            by_cases huv : v ≤ u
            · have HNO := Nu.hid (HF.out.no HE.out fun h => by have := h.1.2.2; omega)
              clear hu hv
              go_wp2_with (first | (go_at_call 80; with_reducible refine (hDU.out _).mono ?_; rintro e w' ⟨rfl, hw'⟩; obtain rfl := hw'.symm; clear hw') | (go_at_call 80; with_reducible refine (hDV.out _).mono ?_; rintro e w' ⟨rfl, hw'⟩; obtain rfl := hw'.symm; clear hw'))
              go_ret
              exact ⟨Ce.Says.no HNO.out, HF2.out.low⟩
            · have hvu : ¬ u ≥ v := huv
              by_cases hab : la < u ∨ (la = u ∧ lb < v)
              · rw [decide_eq_true hab] at hAB
                have HOK : Hid ((Ce.okN u ∧ Ce.okN v ∧ u < v) ∧ (la < u ∨ (la = u ∧ lb < v))) := ⟨⟨hu, hv, by omega⟩, hab⟩
                clear hu hv hab
                go_wp2_with (first | (go_at_call 80; with_reducible refine (hDU.out _).mono ?_; rintro e w' ⟨rfl, hw'⟩; obtain rfl := hw'.symm; clear hw') | (go_at_call 80; with_reducible refine (hDV.out _).mono ?_; rintro e w' ⟨rfl, hw'⟩; obtain rfl := hw'.symm; clear hw') | (go_at_call 41; with_reducible refine (hAB.out _).mono ?_; rintro e w6 ⟨rfl, hb6⟩; have hf6 := HF2.out.later hb6; have m0 := (two_cells17 hf6.last).1; have m1 := (two_cells17 hf6.last).2.1; have mf := (two_cells17 hf6.last).2.2; have hz := heap_alloc_new wr (.cells #[.int .i64 u, .int .i64 v] 41); have hz6 := (hb6.block _ (lt_of_block hz)).trans hz; have n0 := (two_cells17 hz6).1; have n1 := (two_cells17 hz6).2.1; have HF6 := Nu.hid hf6; clear hb6 hf6 hz hz6))
                go_roundw
                case rel => exact ⟨k + 1, u, v, by omega, by go_num, HF6.out.more HE.out HOK.out.1 HOK.out.2⟩
                case measure => simp [intOf]; omega
              · rw [decide_eq_false hab] at hAB
                have HNO := Nu.hid (HF.out.no HE.out fun h => hab h.2)
                clear hu hv hab
                go_wp2_with (first | (go_at_call 80; with_reducible refine (hDU.out _).mono ?_; rintro e w' ⟨rfl, hw'⟩; obtain rfl := hw'.symm; clear hw') | (go_at_call 80; with_reducible refine (hDV.out _).mono ?_; rintro e w' ⟨rfl, hw'⟩; obtain rfl := hw'.symm; clear hw') | (go_at_call 41; with_reducible refine (hAB.out _).mono ?_; rintro e w6 ⟨rfl, hb6⟩))
                go_ret
                exact ⟨Ce.Says.no HNO.out, (HF2.out.later hb6).low⟩
          · rw [decide_eq_false hv] at hDV
            have HNO := Nu.hid (HF.out.no HE.out fun h => hv h.1.2.1)
            clear hu hv
            go_wp2_with (first | (go_at_call 80; with_reducible refine (hDU.out _).mono ?_; rintro e w' ⟨rfl, hw'⟩; obtain rfl := hw'.symm; clear hw') | (go_at_call 80; with_reducible refine (hDV.out _).mono ?_; rintro e w' ⟨rfl, hw'⟩; obtain rfl := hw'.symm; clear hw'))
            go_ret
            exact ⟨Ce.Says.no HNO.out, HF2.out.low⟩
        · rw [decide_eq_false hu] at hDU
          have HNO := Nu.hid (HF.out.no HE.out fun h => hu h.1.1)
          clear hu
          go_wp2_with (first | (go_at_call 80; with_reducible refine (hDU.out _).mono ?_; rintro e w' ⟨rfl, hw'⟩; obtain rfl := hw'.symm; clear hw') | (go_at_call 80; with_reducible refine (hDV.out _).mono ?_; rintro e w' ⟨rfl, hw'⟩; obtain rfl := hw'.symm; clear hw'))
          go_ret
          exact ⟨Ce.Says.no HNO.out, HF2.out.low⟩
      · have hlti : ¬ ((k : Int) < (n : Int)) := by omega
        obtain rfl : k = n := by omega
        go_wp2
        go_ret
        have hf := HF.out
        rw [← HN.out] at hf
        exact ⟨Ce.Says.yes (hf.yes (by have := HN.out; omega)), HF.out.low⟩
end Go.Proofs.YtodlejemkihjnaaDoor

/-
  The program's writer: the text of a proof.
-/
namespace Go.Proofs.YtodlejemkihjnaaDoor
open Go.RowKit

/-- What is written of a text T, up to P; or it is too long. -/
def WrS (w : World) (B b : Nat) (T P : List UInt8) : Prop :=
  ∃ L t, IsWrt w B b L t ∧ L.length ≤ 300000000 ∧ ((t = false ∧ L = P) ∨ (t = true ∧ 33554432 < T.length))
theorem WrS.line {w : World} {B b : Nat} {T P : List UInt8} (h : WrS w B b T P) (hB : B ≤ w.heap.size) {ao : Option Addr} {c : Nat} {l : List Int} (ha : IntsAt w ao l) (hok : ∀ x ∈ l, Ce.okN x) (hl : l.length ≤ 4611686018427387) (ht : Tab w) (hT : ∃ R, T = P ++ Ce.lineB l ++ R) :
    Calls Tryd.prog 21 #[.pointer (some ⟨b, 0, none⟩), .slice ao l.length c] w fun e w' => e = .returned (.tuple #[]) ∧ WrS w' B b T (P ++ Ce.lineB l) ∧ Below B w w' := by
  obtain ⟨L, t, hw, hL, hx⟩ := h
  rcases hx with ⟨rfl, rfl⟩ | ⟨rfl, hlong⟩
  · by_cases hs : L.length + 2 * l.length ≤ 33554432
    · refine (wline17_more hw hB ha hok ht hs).mono ?_
      rintro e w' ⟨he, h1, h2⟩
      have := Ce.line_hi l hok
      exact ⟨he, ⟨_, _, h1, by rw [List.length_append]; omega, .inl ⟨rfl, rfl⟩⟩, h2⟩
    · refine (wline17_long (ao := ao) (c := c) hw hl (.inr (by omega)) (by omega)).mono ?_
      rintro e w' ⟨he, h1, h2⟩
      refine ⟨he, ⟨_, _, h1, hL, .inr ⟨rfl, ?_⟩⟩, h2⟩
      obtain ⟨R, rfl⟩ := hT
      have := Ce.line_lo l
      rw [List.length_append, List.length_append]
      omega
  · refine (wline17_long (ao := ao) (c := c) hw hl (.inl rfl) (by omega)).mono ?_
    rintro e w' ⟨he, h1, h2⟩
    exact ⟨he, ⟨_, _, h1, hL, .inr ⟨rfl, hlong⟩⟩, h2⟩

/-- What the end of write answers. -/
theorem WrS.end {w : World} {B b : Nat} {T : List UInt8} (h : WrS w B b T T) (hT : T ≠ []) :
    ∃ K : Nat, ∃ t : Bool, w.cell? ⟨b, 2, none⟩ = some (.bool t) ∧ (Calls Tryd.prog 22 #[.pointer (some ⟨b, 0, none⟩)] w fun e w' => e = .returned (.int .i64 (K : Int)) ∧ w' = w) ∧
      (t = true ∧ 33554432 < T.length ∨ t = false ∧ K = T.length ∧ Calls Tryd.prog 23 #[.pointer (some ⟨b, 0, none⟩)] w fun e w' => e = .returned (.string ⟨T.toArray⟩) ∧ Below B w w') := by
  obtain ⟨L, t, hw, hL, hx⟩ := h
  obtain ⟨p, h1⟩ := hw.some
  obtain ⟨vo, vc, -, -, c2, -, -⟩ := h1.cells
  refine ⟨L.length, t, c2, wlen17_any hw, ?_⟩
  rcases hx with ⟨rfl, rfl⟩ | ⟨rfl, hlong⟩
  · exact .inr ⟨rfl, rfl, wstring17_any hw hT⟩
  · exact .inl ⟨rfl, hlong⟩
end Go.Proofs.YtodlejemkihjnaaDoor

/-
  The program's writer: the text of lists.
-/
namespace Go.Proofs.YtodlejemkihjnaaDoor
open Go.RowKit

theorem tab_below {w : World} (h : Tab w) : ∀ W, Below w.heap.size w W → Tab W := fun W hW => Lib.tabBelow_of_tabIs h W hW
theorem flat_take {α : Type} (f : α → List UInt8) (ls : List α) {k : Nat} {l : α} (h : ls[k]? = some l) : (ls.take (k + 1)).flatMap f = (ls.take k).flatMap f ++ f l := by
  rw [List.take_add_one, h, List.flatMap_append]
  simp
theorem flat_split {α : Type} (f : α → List UInt8) (ls : List α) {k : Nat} {l : α} (h : ls[k]? = some l) : ∃ R, ls.flatMap f = (ls.take k).flatMap f ++ f l ++ R := by
  refine ⟨(ls.drop (k + 1)).flatMap f, ?_⟩
  rw [← flat_take f ls h, ← List.flatMap_append, List.take_append_drop]

set_option maxHeartbeats 4000000 in
set_option maxRecDepth 100000 in
theorem write17_lists {w : World} {ls : List (List Int)} {ao : Option Addr} {ca : Nat} (ha : Ce.ListsAt w ao ls) (hg : Ce.okLs ls) (hl : ∀ l ∈ ls, l.length ≤ 4611686018427387) (ht : Tab w) (T : List UInt8) (hT : Ce.textB ⟨true, ls, []⟩ = T) :
    Calls Tryd.prog 12 #[.iface 60 (.slice ao ls.length ca)] w fun e w' => Prt T e ∧ Below w.heap.size w w' := by
  have hta1 : ∀ (v : Value) (w : World), (Instr.typeAssert (.iface 60 v) 45 60 true).run Tryd.prog w = .ok (.tuple #[v, .bool true]) w := fun _ _ => by kernel_rfl
  obtain ⟨n, hn⟩ : ∃ n, ls.length = n := ⟨_, rfl⟩
  have hns : n ≤ 1048576 := by have := hg.2; omega
  have hok : Ce.okN (n : Int) := ⟨by omega, by omega⟩
  obtain ⟨H, hH⟩ : ∃ H, [112, 32] ++ Ce.lineB [(n : Int)] = H := ⟨_, rfl⟩
  have hTH : T = H ++ ls.flatMap Ce.lineB := by
    rw [← hT, ← hH]
    unfold Ce.textB Ce.cntC Ce.bodyB
    simp [hn, Ce.lineB, Ce.jn]
  have hT0 : T ≠ [] := by rw [hTH, ← hH]; simp
  have hHl : H.length ≤ 300000000 := by
    rw [← hH]
    have := Ce.line_hi [(n : Int)] (fun x hx => by rw [List.mem_singleton.1 hx]; exact hok)
    simp at this ⊢
    omega
  have hb0 : Below w.heap.size w (w.alloc (.cells #[.pointer none, .slice none 0 0, .bool false] 66)) := (Below.refl _ _).alloc (Nat.le_refl _) _
  have HHEAD := Nu.hid (whead17_any (S := [112, 32]) (Wrt.new (B := w.heap.size) w (Nat.le_refl _)) (by simp) (by simp) hok (fun W hW => tab_below ht W (hb0.trans hW)))
  rw [hH] at HHEAD
  have HTB := Nu.hid (tab_below ht)
  have HA := Nu.hid ha
  have HG := Nu.hid hg.1
  have HL := Nu.hid hl
  have HN := Nu.hid hn
  have HTH := Nu.hid hTH
  have HHL := Nu.hid hHl
  have HB0 := Nu.hid hb0
  rw [hn]
  clear ha hg hl ht hn hTH hHl hb0 hH hT
  go_enter Tryd.func12, Tryd.ntmps12
  go_wp2_with (go_at_call 20; refine HHEAD.out.mono ?_; rintro e w1 ⟨rfl, hw1, hb1⟩; have HW1 := Nu.hid hw1; have HB1 := Nu.hid (HB0.out.trans hb1); clear hw1 hb1)
  go_loopw [20] (fun iv wr => ∃ k : Nat, k ≤ n ∧ iv = .int .i64 (k : Int) ∧ WrS wr w.heap.size w.heap.size T (H ++ (ls.take k).flatMap Ce.lineB) ∧ Below w.heap.size w wr) (fun iv _ => n - (intOf iv).toNat)
  case atStart => exact ⟨0, Nat.zero_le _, rfl, ⟨H, false, HW1.out, HHL.out, .inl ⟨rfl, by simp⟩⟩, HB1.out⟩
  case round =>
    obtain ⟨k, hk, rfl, hw, hb⟩ := hrel
    have HW := Nu.hid hw
    have HB := Nu.hid hb
    have hsz := hb.size
    by_cases hlt : k < n
    · have hlti : (k : Int) < (n : Int) := by omega
      obtain ⟨l, hlk⟩ : ∃ l, ls[k]? = some l := ⟨_, List.getElem?_eq_getElem (by have := HN.out; omega)⟩
      obtain ⟨b, o, xa, xc, rfl, c0, hia⟩ := (HA.out.later hb) k l hlk
      have hlm := HL.out l (List.mem_of_getElem? hlk)
      have hxs : ∃ R, T = (H ++ (ls.take k).flatMap Ce.lineB) ++ Ce.lineB l ++ R := by
        obtain ⟨R, hR⟩ := flat_split Ce.lineB ls hlk
        exact ⟨R, by rw [HTH.out, hR]; simp⟩
      have HC := Nu.hid (hw.line hsz (c := xc) hia (fun x hx => ((HG.out l (List.mem_of_getElem? hlk)) x hx).1) hlm (HTB.out _ hb) hxs)
      have HLK := Nu.hid hlk
      have k0 : (0 : Int) ≤ (k : Int) := by omega
      clear hw hb hia hlk hxs
      go_wp2_with (go_at_call 21; refine HC.out.mono ?_; rintro e w2 ⟨rfl, hw2, hb2⟩; have HW2 := Nu.hid hw2; have HB2 := Nu.hid (HB.out.trans hb2); clear hw2 hb2)
      go_roundw
      case rel => exact ⟨k + 1, by omega, by go_num, by rw [flat_take Ce.lineB ls HLK.out, ← List.append_assoc]; exact HW2.out, HB2.out⟩
      case measure => simp [intOf]; omega
    · have hlti : ¬ ((k : Int) < (n : Int)) := by omega
      obtain rfl : k = n := by omega
      have hte : ls.take k = ls := by rw [← HN.out]; exact List.take_length
      rw [hte, ← HTH.out] at hw
      obtain ⟨K, t, c2, hlen, hx⟩ := hw.end hT0
      have HLEN := Nu.hid hlen
      clear hw hb hlen
      rcases hx with ⟨rfl, hlong⟩ | ⟨rfl, rfl, hstr⟩
      · go_wp2
        go_ret2
        exact ⟨.inl ⟨hlong, rfl⟩, HB.out⟩
      · have HSTR := Nu.hid hstr
        clear hstr
        by_cases hlong : 33554432 < T.length
        · have hli : (33554432 : Int) < (T.length : Int) := by omega
          go_wp2_with (go_at_call 22; refine HLEN.out.mono ?_; rintro e w' ⟨rfl, hw'⟩; obtain rfl := hw'.symm; clear hw')
          go_ret2
          exact ⟨.inl ⟨hlong, rfl⟩, HB.out⟩
        · have hli : ¬ ((33554432 : Int) < (T.length : Int)) := by omega
          go_wp2_with (first | (go_at_call 22; refine HLEN.out.mono ?_; rintro e w' ⟨rfl, hw'⟩; obtain rfl := hw'.symm; clear hw') | (go_at_call 23; refine HSTR.out.mono ?_; rintro e w4 ⟨rfl, hb4⟩; have HB4 := Nu.hid (HB.out.trans hb4); clear hb4))
          go_ret2
          exact ⟨.inr ⟨by omega, rfl⟩, HB4.out⟩
end Go.Proofs.YtodlejemkihjnaaDoor
