/-
  The document's functions of layer 15: a chain in its one way; does it go by an edge?
-/
import Derived.Test.YtdhaaodalchpkaaKuG
namespace Go.Proofs.Ytdhaaodalchpkaa
open Go.RowKit Go.Sort

namespace Ku
def gI (l : List Int) (i : Nat) : Int := l.getD i 0
theorem gI_at {l : List Int} {i : Nat} {x : Int} (h : l[i]? = some x) : gI l i = x := by unfold gI; rw [List.getD_eq_getElem?_getD, h]; rfl
def writtenI (l : List Int) : List Int := if gI l (l.length - 1) < gI l 0 ∨ (gI l 0 = gI l (l.length - 1) ∧ gI l (l.length - 2) < gI l 1) then l.reverse else l
/-- As ints. -/
def ZL (c : List Nat) : List Int := c.map fun x : Nat => (x : Int)
theorem ZL_length (c : List Nat) : (ZL c).length = c.length := by simp [ZL]
theorem ZL_at (c : List Nat) (i : Nat) : (ZL c)[i]? = (c[i]?).map fun x : Nat => (x : Int) := by simp [ZL]
theorem gI_ZL (c : List Nat) (i : Nat) : gI (ZL c) i = (at_ c i : Int) := by
  unfold gI at_
  rw [List.getD_eq_getElem?_getD, List.getD_eq_getElem?_getD, ZL_at]
  cases c[i]? <;> rfl
theorem written_ZL (c : List Nat) : writtenI (ZL c) = ZL (written c) := by
  unfold writtenI written
  simp only [gI_ZL, ZL_length]
  by_cases h : at_ c (c.length - 1) < at_ c 0 ∨ (at_ c 0 = at_ c (c.length - 1) ∧ at_ c (c.length - 2) < at_ c 1)
  · rw [if_pos h, if_pos (by omega)]
    simp [ZL, List.map_reverse]
  · rw [if_neg h, if_neg (by omega)]
end Ku

set_option maxRecDepth 100000 in
set_option maxHeartbeats 4000000 in
theorem kwritten_any (B : Nat) (ao : Option Addr) (q c : Nat) (l : List Int) (w : World) (hq : l.length = q) (h : OwnZ w B (.slice ao q c) l) (hB : B ≤ w.heap.size) (h2 : 2 ≤ q) (hl : q ≤ 17592186044000) :
    Calls Try.prog 49 #[.slice ao q c] w fun e w' => ∃ v, e = .returned v ∧ OwnZ w' B v (Ku.writtenI l) ∧ Below w.heap.size w w' := by
  obtain ⟨ao', c', e, hat, -⟩ := h.form
  rw [hq] at e
  cases e
  have HOWN := Nu.hid h
  have HAT := Nu.hid hat
  obtain ⟨q1, hq1⟩ : ∃ q1, q1 = q - 1 := ⟨_, rfl⟩
  obtain ⟨q2, hq2⟩ : ∃ q2, q2 = q - 2 := ⟨_, rfl⟩
  obtain ⟨x0, hx0⟩ : ∃ x, l[0]? = some x := ⟨_, List.getElem?_eq_getElem (by omega)⟩
  obtain ⟨x1, hx1⟩ : ∃ x, l[1]? = some x := ⟨_, List.getElem?_eq_getElem (by omega)⟩
  obtain ⟨xn, hxn⟩ : ∃ x, l[q1]? = some x := ⟨_, List.getElem?_eq_getElem (by omega)⟩
  obtain ⟨xm, hxm⟩ : ∃ x, l[q2]? = some x := ⟨_, List.getElem?_eq_getElem (by omega)⟩
  obtain ⟨b, o, rfl, e0⟩ := hat 0 x0 hx0
  obtain ⟨_, _, e, e1⟩ := hat 1 x1 hx1
  cases e
  obtain ⟨_, _, e, e2⟩ := hat q1 xn hxn
  cases e
  obtain ⟨_, _, e, e3⟩ := hat q2 xm hxm
  cases e
  rw [Nat.add_zero] at e0
  have hw1 : IntKind.i64.wrap ((q : Int) - 1) = (q1 : Int) := by rw [IntKind.wrap_i64]; omega
  have hw2 : IntKind.i64.wrap ((q : Int) - 2) = (q2 : Int) := by rw [IntKind.wrap_i64]; omega
  have i0 : (0 : Int) < (q : Int) := by omega
  have i1 : (1 : Int) < (q : Int) := by omega
  have i2 : (0 : Int) ≤ (q1 : Int) := by omega
  have i3 : (q1 : Int) < (q : Int) := by omega
  have i4 : (0 : Int) ≤ (q2 : Int) := by omega
  have i5 : (q2 : Int) < (q : Int) := by omega
  have d0 : ∀ D : LW w, D.val.cell? ⟨b, o, none⟩ = some (.int .i64 x0) := fun D => (D.h.cell (p := ⟨b, o, none⟩) (block_lt_of_cell e0)).trans e0
  have d1 : ∀ D : LW w, D.val.cell? ⟨b, o + 1, none⟩ = some (.int .i64 x1) := fun D => (D.h.cell (p := ⟨b, o + 1, none⟩) (block_lt_of_cell e1)).trans e1
  have d2 : ∀ D : LW w, D.val.cell? ⟨b, o + q1, none⟩ = some (.int .i64 xn) := fun D => (D.h.cell (p := ⟨b, o + q1, none⟩) (block_lt_of_cell e2)).trans e2
  have d3 : ∀ D : LW w, D.val.cell? ⟨b, o + q2, none⟩ = some (.int .i64 xm) := fun D => (D.h.cell (p := ⟨b, o + q2, none⟩) (block_lt_of_cell e3)).trans e3
  have hne := LW.any w
  have HDEF : Hid (Ku.writtenI l = if xn < x0 ∨ (x0 = xn ∧ xm < x1) then l.reverse else l) := by
    show _ = _
    unfold Ku.writtenI
    rw [hq, ← hq1, ← hq2, Ku.gI_at hx0, Ku.gI_at hx1, Ku.gI_at hxn, Ku.gI_at hxm]
  have HTU : Hid (∀ W, Below w.heap.size w W → Calls Try.prog 48 #[.slice (some ⟨b, o, none⟩) q c] W fun e w' => ∃ v, e = .returned v ∧ OwnZ w' W.heap.size v l.reverse ∧ Below W.heap.size W w') := fun W hb => kturned_any _ q c l W hq (HAT.out.later hb) hl
  clear h hat hx0 hx1 hxn hxm hq1 hq2 e0 e1 e2 e3
  by_cases ha : xn < x0
  · have HR : Hid (Ku.writtenI l = l.reverse) := by show _ = _; rw [HDEF.out, if_pos (.inl ha)]
    go_enter Try.func49, Try.ntmps49
    go_wp2_with fail
    refine wp_region_lw (by kernel_rfl) (by kernel_rfl) ?_
    repeat (go_big_quiet_step (fail))
    refine wpQuiet_nil ?_
    rintro _ ⟨E, rfl⟩
    have HBE := Nu.hid E.h
    obtain ⟨WE, hWE⟩ : ∃ WE, WE = E.val := ⟨_, rfl⟩
    rw [← hWE] at HBE ⊢
    have HT := Nu.hid (HTU.out WE HBE.out)
    clear d0 d1 d2 d3 hne hWE
    go_wp2_with (go_at_call 48; refine HT.out.mono ?_; rintro e w2 ⟨v, rfl, ho, hb⟩; refine Hid.out ?_)
    refine Nu.hid ?_
    have HO := Nu.hid ho
    have HB := Nu.hid (HBE.out.trans (hb.mono HBE.out.size))
    have hs := HBE.out.size
    clear ho hb
    go_wp2
    go_ret
    exact ⟨_, rfl, by rw [HR.out]; exact HO.out.lower (by omega), HB.out⟩
  · have u1 : decide (xn < x0) = false := by simp only [decide_eq_false_iff_not]; exact ha
    by_cases hb : x0 = xn
    · have t1 : (x0 == xn) = true := by simp [hb]
      by_cases hc : xm < x1
      · have u2 : decide (xm < x1) = true := by simp only [decide_eq_true_eq]; exact hc
        have HR : Hid (Ku.writtenI l = l.reverse) := by show _ = _; rw [HDEF.out, if_pos (.inr ⟨hb, hc⟩)]
        clear hb
        go_enter Try.func49, Try.ntmps49
        go_wp2_with fail
        refine wp_region_lw (by kernel_rfl) (by kernel_rfl) ?_
        repeat (go_big_quiet_step (fail))
        refine wpQuiet_nil ?_
        rintro _ ⟨E, rfl⟩
        have HBE := Nu.hid E.h
        obtain ⟨WE, hWE⟩ : ∃ WE, WE = E.val := ⟨_, rfl⟩
        rw [← hWE] at HBE ⊢
        have HT := Nu.hid (HTU.out WE HBE.out)
        clear d0 d1 d2 d3 hne hWE
        go_wp2_with (go_at_call 48; refine HT.out.mono ?_; rintro e w2 ⟨v, rfl, ho, hb⟩; refine Hid.out ?_)
        refine Nu.hid ?_
        have HO := Nu.hid ho
        have HB := Nu.hid (HBE.out.trans (hb.mono HBE.out.size))
        have hs := HBE.out.size
        clear ho hb
        go_wp2
        go_ret
        exact ⟨_, rfl, by rw [HR.out]; exact HO.out.lower (by omega), HB.out⟩
      · have u2 : decide (xm < x1) = false := by simp only [decide_eq_false_iff_not]; exact hc
        have HR : Hid (Ku.writtenI l = l) := by show _ = _; rw [HDEF.out, if_neg (by omega)]
        clear hb
        go_enter Try.func49, Try.ntmps49
        go_wp2_with fail
        refine wp_region_lw (by kernel_rfl) (by kernel_rfl) ?_
        repeat (go_big_quiet_step (fail))
        refine wpQuiet_nil ?_
        rintro _ ⟨E, rfl⟩
        have HBE := Nu.hid E.h
        have HO := Nu.hid (HOWN.out.later E.h)
        obtain ⟨WE, hWE⟩ : ∃ WE, WE = E.val := ⟨_, rfl⟩
        rw [← hWE] at HBE HO ⊢
        clear d0 d1 d2 d3 hne hWE
        go_wp2
        go_ret
        exact ⟨_, rfl, by rw [HR.out]; exact HO.out, HBE.out⟩
    · have t1 : (x0 == xn) = false := by simp [hb]
      have HR : Hid (Ku.writtenI l = l) := by show _ = _; rw [HDEF.out, if_neg (by omega)]
      clear hb
      go_enter Try.func49, Try.ntmps49
      go_wp2_with fail
      refine wp_region_lw (by kernel_rfl) (by kernel_rfl) ?_
      repeat (go_big_quiet_step (fail))
      refine wpQuiet_nil ?_
      rintro _ ⟨E, rfl⟩
      have HBE := Nu.hid E.h
      have HO := Nu.hid (HOWN.out.later E.h)
      obtain ⟨WE, hWE⟩ : ∃ WE, WE = E.val := ⟨_, rfl⟩
      rw [← hWE] at HBE HO ⊢
      clear d0 d1 d2 d3 hne hWE
      go_wp2
      go_ret
      exact ⟨_, rfl, by rw [HR.out]; exact HO.out, HBE.out⟩

/-- Two neighbours are an edge's ends. -/
def Ku.StepI (l : List Int) (a b : Int) : Prop := ∃ (j : Nat) (x y : Int), l[j]? = some x ∧ l[j + 1]? = some y ∧ ((x = a ∧ y = b) ∨ (x = b ∧ y = a))

/-- What steps answers. -/
def Ku.StepPost (l : List Int) (a b : Int) (w : World) (e : Ending) (w' : World) : Prop := ∃ r : Bool, e = .returned (.bool r) ∧ (r = true ↔ Ku.StepI l a b) ∧ Below w.heap.size w w'

set_option maxRecDepth 100000 in
set_option maxHeartbeats 4000000 in
theorem ksteps_any (ao : Option Addr) (q c : Nat) (l : List Int) (a b : Int) (w : World) (hq : l.length = q) (h : IntsAt w ao l) (h1q : 1 ≤ q) (hl : q ≤ 17592186044000) :
    Calls Try.prog 26 #[.slice ao q c, .agg #[.int .i64 a, .int .i64 b]] w (Ku.StepPost l a b w) := by
  obtain ⟨W, hW⟩ : ∃ W, W = w.alloc (.cells #[.int .i64 a, .int .i64 b] 57) := ⟨_, rfl⟩
  have hB0 : Below w.heap.size w W := by rw [hW]; exact (Below.refl _ _).alloc (Nat.le_refl _) _
  have g1 : W.heap[w.heap.size]? = some (.cells #[.int .i64 a, .int .i64 b] 57 (0, 0)) := by rw [hW]; exact heap_alloc_new w _
  have HL := Nu.hid (h.later hB0)
  have HQ := Nu.hid hq
  have HB0 := Nu.hid hB0
  have HW := Nu.hid hW
  have HG := Nu.hid g1
  clear h hq hB0 g1 hW
  go_enter Try.func26, Try.ntmps26
  go_wp2_with fail
  rw [← HW.out]
  go_wp2
  go_loopw [5] (fun cv wr => ∃ (k j : Nat), k ≤ q ∧ k = j + 1 ∧ cv = .int .i64 (k : Int) ∧ (∀ (i : Nat) (x y : Int), i < j → l[i]? = some x → l[i + 1]? = some y → ¬ ((x = a ∧ y = b) ∨ (x = b ∧ y = a))) ∧ Below W.heap.size W wr) (fun cv _ => q - (intOf cv).toNat)
  case atStart => exact ⟨1, 0, h1q, rfl, rfl, fun i x y hi => by omega, Below.refl _ _⟩
  case round =>
    obtain ⟨k, j, hk, hkj, rfl, hno, hb⟩ := hrel
    obtain ⟨w1, rfl⟩ : ∃ w1, w1 = wr := ⟨wr, rfl⟩
    have HNO := Nu.hid hno
    have HB := Nu.hid hb
    have hwk : IntKind.i64.wrap ((k : Int) + 1) = (k : Int) + 1 := by rw [IntKind.wrap_i64]; omega
    have hwj : IntKind.i64.wrap ((k : Int) - 1) = (j : Int) := by rw [IntKind.wrap_i64]; omega
    by_cases hlt : k < q
    · have hlti : (k : Int) < (q : Int) := by omega
      have hk0 : (0 : Int) ≤ (k : Int) := by omega
      have hj0 : (0 : Int) ≤ (j : Int) := by omega
      have hj1 : (j : Int) < (q : Int) := by omega
      obtain ⟨x, hx⟩ : ∃ x, l[j]? = some x := ⟨_, List.getElem?_eq_getElem (by rw [HQ.out]; omega)⟩
      obtain ⟨y, hy⟩ : ∃ y, l[k]? = some y := ⟨_, List.getElem?_eq_getElem (by rw [HQ.out]; omega)⟩
      obtain ⟨bb, o, rfl, e0⟩ := (HL.out.later hb) j x hx
      obtain ⟨_, _, e, e1⟩ := (HL.out.later hb) k y hy
      cases e
      obtain ⟨c0, c1, -⟩ := pair_cells ((hb.block _ (lt_of_block HG.out)).trans HG.out)
      have d0 : ∀ D : LW w1, D.val.cell? ⟨bb, o + j, none⟩ = some (.int .i64 x) := fun D => (D.h.cell (p := ⟨bb, o + j, none⟩) (block_lt_of_cell e0)).trans e0
      have d1 : ∀ D : LW w1, D.val.cell? ⟨bb, o + k, none⟩ = some (.int .i64 y) := fun D => (D.h.cell (p := ⟨bb, o + k, none⟩) (block_lt_of_cell e1)).trans e1
      have d2 : ∀ D : LW w1, D.val.cell? ⟨w.heap.size, 0, none⟩ = some (.int .i64 a) := fun D => (D.h.cell (p := ⟨w.heap.size, 0, none⟩) (block_lt_of_cell c0)).trans c0
      have d3 : ∀ D : LW w1, D.val.cell? ⟨w.heap.size, 1, none⟩ = some (.int .i64 b) := fun D => (D.h.cell (p := ⟨w.heap.size, 1, none⟩) (block_lt_of_cell c1)).trans c1
      have hne := LW.any w1
      have HYES : Hid (((x = a ∧ y = b) ∨ (x = b ∧ y = a)) → Ku.StepI l a b) := fun hh => ⟨j, x, y, hx, by rw [← hkj]; exact hy, hh⟩
      have HNEXT : Hid (¬ ((x = a ∧ y = b) ∨ (x = b ∧ y = a)) → ∀ (i : Nat) (u v : Int), i < j + 1 → l[i]? = some u → l[i + 1]? = some v → ¬ ((u = a ∧ v = b) ∨ (u = b ∧ v = a))) := fun hh i u v hi hu hv => by
        by_cases e : i = j
        · subst e
          rw [hx] at hu
          rw [← hkj, hy] at hv
          cases hu
          cases hv
          exact hh
        · exact HNO.out i u v (by omega) hu hv
      have HKJ := Nu.hid hkj
      clear hno hb hx hy e0 e1 c0 c1 hkj
      by_cases hh : (x = a ∧ y = b) ∨ (x = b ∧ y = a)
      · have HR := Nu.hid (HYES.out hh)
        have : (x == a && y == b || x == b && y == a) = true := by
          rcases hh with ⟨rfl, rfl⟩ | ⟨rfl, rfl⟩ <;> simp
        obtain ⟨t1, ht1⟩ : ∃ t, (x == a) = t := ⟨_, rfl⟩
        obtain ⟨t2, ht2⟩ : ∃ t, (y == b) = t := ⟨_, rfl⟩
        obtain ⟨t3, ht3⟩ : ∃ t, (x == b) = t := ⟨_, rfl⟩
        obtain ⟨t4, ht4⟩ : ∃ t, (y == a) = t := ⟨_, rfl⟩
        rw [ht1, ht2, ht3, ht4] at this
        clear hh
        cases t1 <;> cases t2 <;> cases t3 <;> cases t4 <;> first
          | (exfalso; revert this; decide)
          | (clear this
             go_wp2_with fail
             refine wp_region_lw (by kernel_rfl) (by kernel_rfl) ?_
             repeat (go_big_quiet_step (fail))
             refine wpQuiet_nil ?_
             rintro _ ⟨E, rfl⟩
             have HBE := Nu.hid (HB0.out.trans ((HB.out.trans (E.h.mono HB.out.size)).mono HB0.out.size))
             obtain ⟨WE, hWE⟩ : ∃ WE, WE = E.val := ⟨_, rfl⟩
             rw [← hWE] at HBE ⊢
             clear d0 d1 d2 d3 hne hWE
             go_wp2
             go_ret
             exact ⟨true, rfl, ⟨fun _ => HR.out, fun _ => rfl⟩, HBE.out⟩)
      · have HN := Nu.hid (HNEXT.out hh)
        have : (x == a && y == b || x == b && y == a) = false := by
          cases hc : (x == a && y == b || x == b && y == a) with
          | false => rfl
          | true =>
            exfalso
            simp only [Bool.or_eq_true, Bool.and_eq_true, beq_iff_eq] at hc
            exact hh hc
        obtain ⟨t1, ht1⟩ : ∃ t, (x == a) = t := ⟨_, rfl⟩
        obtain ⟨t2, ht2⟩ : ∃ t, (y == b) = t := ⟨_, rfl⟩
        obtain ⟨t3, ht3⟩ : ∃ t, (x == b) = t := ⟨_, rfl⟩
        obtain ⟨t4, ht4⟩ : ∃ t, (y == a) = t := ⟨_, rfl⟩
        rw [ht1, ht2, ht3, ht4] at this
        clear hh
        cases t1 <;> cases t2 <;> cases t3 <;> cases t4 <;> first
          | (exfalso; revert this; decide)
          | (clear this
             go_wp2_with fail
             refine wp_region_lw (by kernel_rfl) (by kernel_rfl) ?_
             repeat (go_big_quiet_step (fail))
             refine wpQuiet_nil ?_
             rintro _ ⟨E, rfl⟩
             have HBE := Nu.hid (HB.out.trans (E.h.mono HB.out.size))
             obtain ⟨WE, hWE⟩ : ∃ WE, WE = E.val := ⟨_, rfl⟩
             rw [← hWE] at HBE ⊢
             clear d0 d1 d2 d3 hne hWE
             go_wp2
             go_roundw
             case rel => exact ⟨k + 1, j + 1, by omega, by have := HKJ.out; omega, by go_num, HN.out, HBE.out⟩
             case measure => simp [intOf]; omega)
    · have hd : ¬ ((k : Int) < (q : Int)) := by omega
      have HN : Hid (¬ Ku.StepI l a b) := fun ⟨i, x, y, hx, hy, hh⟩ => hno i x y (by have := (List.getElem?_eq_some_iff.1 hy).1; rw [HQ.out] at this; omega) hx hy hh
      clear hno hb hkj
      go_wp2
      go_ret
      exact ⟨false, rfl, ⟨fun h => (by cases h), fun h => absurd h HN.out⟩, HB0.out.trans (HB.out.mono HB0.out.size)⟩

end Go.Proofs.Ytdhaaodalchpkaa
