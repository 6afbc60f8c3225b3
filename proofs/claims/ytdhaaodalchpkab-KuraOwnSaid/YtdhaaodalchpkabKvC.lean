/-
  Layer 15, the program: slices.Reverse of a list of one's own; written.
-/
import Derived.Test.YtdhaaodalchpkabShelf
import Derived.Test.YtdhaaodalchpkabKuI
import Derived.Sort.OwnSortedInts
namespace Go.Proofs.Ytdhaaodalchpkab
open Go.RowKit Go.Sort

theorem grow_none (w : World) : Sort.grow w #[] = w := by
  cases w
  simp [Sort.grow]

theorem vreverse_any (B : Nat) (v : Value) (R : List Int) (w : World) (h : OwnZ w B v R) (h0 : R ≠ []) (hl : R.length ≤ 17592186044000) :
    Calls Try.prog 48 #[v] w fun e w' => e = .returned (.tuple #[]) ∧ OwnZ w' B v R.reverse ∧ w.grownBy w' v.ownBlock := by
  have hml : R.reverse.length = R.length := List.length_reverse
  rcases h.2 with ⟨rfl, h1⟩ | ⟨g, cap, cur, rfl, hg, hh, hc, hm, hs, ht⟩
  · exact absurd (List.length_eq_zero_iff.1 h1) h0
  · rw [Nat.mul_one] at ht
    refine (Try.slices_Reverse_int g 0 cap R w (holds_of_blockI hh ht) (by omega)).mono ?_
    rintro e w' ⟨rfl, n, rfl⟩
    have a1 := ownsRow_sortedI (n := n) (os := #[]) hml hg hh hc hm hs
    have a2 := grownBy_sortedI (w := w) (g := g) (n := n) (os := #[]) R.reverse.toArray
    rw [grow_none] at a1 a2
    refine ⟨rfl, ?_, a2⟩
    unfold OwnZ
    rw [hml]
    exact a1

set_option maxRecDepth 100000 in
set_option maxHeartbeats 8000000 in
theorem vwritten_any (B : Nat) (ao : Option Addr) (q c : Nat) (l : List Int) (w : World) (hq : l.length = q) (h : OwnZ w B (.slice ao q c) l) (hB : B ≤ w.heap.size) (h2 : 2 ≤ q) (hl : q ≤ 17592186044000) :
    Calls Try.prog 33 #[.slice ao q c] w fun e w' => e = .returned (.slice ao q c) ∧ OwnZ w' B (.slice ao q c) (Ku.writtenI l) ∧ Below B w w' := by
  obtain ⟨ao', c', e, hat, -⟩ := h.form
  rw [hq] at e
  cases e
  have HOWN := Nu.hid h
  have HLO : Hid (∀ b, (Value.slice ao q c).ownBlock = some b → B ≤ b) := fun b hb => (World.ownsRow.lt h b hb).1
  obtain ⟨q1, hq1⟩ : ∃ q1, q1 = q - 1 := ⟨_, rfl⟩
  obtain ⟨q2, hq2⟩ : ∃ q2, q2 = q - 2 := ⟨_, rfl⟩
  obtain ⟨x0, hx0⟩ : ∃ x, l[0]? = some x := ⟨_, List.getElem?_eq_getElem (by omega)⟩
  obtain ⟨x1, hx1⟩ : ∃ x, l[1]? = some x := ⟨_, List.getElem?_eq_getElem (by omega)⟩
  obtain ⟨xn, hxn⟩ : ∃ x, l[q1]? = some x := ⟨_, List.getElem?_eq_getElem (by omega)⟩
  obtain ⟨xm, hxm⟩ : ∃ x, l[q2]? = some x := ⟨_, List.getElem?_eq_getElem (by omega)⟩
  obtain ⟨b, o, rfl, e0⟩ := hat 0 x0 hx0
  obtain ⟨_, _, e, e1⟩ := hat 1 x1 hx1
  cases e
  obtain ⟨_, _, e, e2⟩ := hat q1 xn hxn
  cases e
  obtain ⟨_, _, e, e3⟩ := hat q2 xm hxm
  cases e
  rw [Nat.add_zero] at e0
  have hw1 : IntKind.i64.wrap ((q : Int) - 1) = (q1 : Int) := by rw [IntKind.wrap_i64]; omega
  have hw2 : IntKind.i64.wrap ((q1 : Int) - 1) = (q2 : Int) := by rw [IntKind.wrap_i64]; omega
  have i0 : (0 : Int) < (q : Int) := by omega
  have i1 : (1 : Int) < (q : Int) := by omega
  have i2 : (0 : Int) ≤ (q1 : Int) := by omega
  have i3 : (q1 : Int) < (q : Int) := by omega
  have i4 : (0 : Int) ≤ (q2 : Int) := by omega
  have i5 : (q2 : Int) < (q : Int) := by omega
  have HCL : Hid (∀ U : World, Below w.heap.size w U → (∀ D : LW U, D.val.cell? ⟨b, o, none⟩ = some (.int .i64 x0)) ∧ (∀ D : LW U, D.val.cell? ⟨b, o + 1, none⟩ = some (.int .i64 x1)) ∧ (∀ D : LW U, D.val.cell? ⟨b, o + q1, none⟩ = some (.int .i64 xn)) ∧ (∀ D : LW U, D.val.cell? ⟨b, o + q2, none⟩ = some (.int .i64 xm))) := fun U hU =>
    have key : ∀ (D : LW U) (i : Nat) (x : Value), w.cell? ⟨b, i, none⟩ = some x → D.val.cell? ⟨b, i, none⟩ = some x := fun D i x hx => ((hU.trans (D.h.mono hU.size)).cell (p := ⟨b, i, none⟩) (block_lt_of_cell hx)).trans hx
    ⟨fun D => key D _ _ e0, fun D => key D _ _ e1, fun D => key D _ _ e2, fun D => key D _ _ e3⟩
  have HDEF : Hid (Ku.writtenI l = if xn < x0 ∨ (x0 = xn ∧ xm < x1) then l.reverse else l) := by
    show _ = _
    unfold Ku.writtenI
    rw [hq, ← hq1, ← hq2, Ku.gI_at hx0, Ku.gI_at hx1, Ku.gI_at hxn, Ku.gI_at hxm]
  have hlne : l ≠ [] := fun e => by rw [e] at hq; simp at hq; omega
  have HRV : Hid (∀ W, Below w.heap.size w W → Calls Try.prog 48 #[.slice (some ⟨b, o, none⟩) q c] W fun e w' => e = .returned (.tuple #[]) ∧ OwnZ w' B (.slice (some ⟨b, o, none⟩) q c) l.reverse ∧ W.grownBy w' (Value.slice (some ⟨b, o, none⟩) q c).ownBlock) := fun W hb => vreverse_any B _ l W (HOWN.out.later hb) hlne (by omega)
  clear h hat hx0 hx1 hxn hxm hq1 hq2 e0 e1 e2 e3 hlne
  obtain ⟨cb, hcb⟩ : ∃ cb, (x0 == xn) = cb := ⟨_, rfl⟩
  by_cases ha : xn < x0
  · have HR : Hid (Ku.writtenI l = l.reverse) := by show _ = _; rw [HDEF.out, if_pos (.inl ha)]
    have u1 : decide (xn < x0) = true := by simp only [decide_eq_true_eq]; exact ha
    clear ha
    go_enter Try.func33, Try.ntmps33
    obtain ⟨d0, d1, d2, d3⟩ := HCL.out w (Below.refl w.heap.size w)
    have hne := LW.any w
    go_wp2_with fail
    refine wp_region_lw (by kernel_rfl) (by kernel_rfl) ?_
    repeat (go_big_quiet_step (fail))
    refine wpQuiet_nil ?_
    rintro _ ⟨E, rfl⟩
    have HB1 := Nu.hid (((Below.refl w.heap.size w)).trans (E.h.mono ((Below.refl w.heap.size w)).size))
    obtain ⟨W1, hWE⟩ : ∃ WE, WE = E.val := ⟨_, rfl⟩
    rw [← hWE] at HB1 ⊢
    clear d0 d1 d2 d3 hne hWE
    obtain ⟨d0, d1, d2, d3⟩ := HCL.out W1 HB1.out
    have hne := LW.any W1
    go_wp2_with fail
    refine wp_region_lw (by kernel_rfl) (by kernel_rfl) ?_
    repeat (go_big_quiet_step (fail))
    refine wpQuiet_nil ?_
    rintro _ ⟨E, rfl⟩
    have HB2 := Nu.hid ((HB1.out).trans (E.h.mono (HB1.out).size))
    obtain ⟨W2, hWE⟩ : ∃ WE, WE = E.val := ⟨_, rfl⟩
    rw [← hWE] at HB2 ⊢
    clear d0 d1 d2 d3 hne hWE
    have HT := Nu.hid (HRV.out W2 HB2.out)
    go_wp2_with (go_at_call 48; refine HT.out.mono ?_; rintro e w3 ⟨rfl, ho, hgr⟩; refine Hid.out ?_)
    refine Nu.hid ?_
    have HO := Nu.hid ho
    have HB3 := Nu.hid ((HB2.out.mono hB).grown hgr (Nat.le_trans hB HB2.out.size) (fun k hk => HLO.out k hk))
    clear ho hgr
    go_wp2
    go_ret
    exact ⟨rfl, by rw [HR.out]; exact HO.out, HB3.out⟩
  · have u1 : decide (xn < x0) = false := by simp only [decide_eq_false_iff_not]; exact ha
    by_cases hb : x0 = xn
    · have t1 : cb = true := by rw [← hcb]; simp [hb]
      subst t1
      by_cases hc : xm < x1
      · have u2 : decide (xm < x1) = true := by simp only [decide_eq_true_eq]; exact hc
        have HR : Hid (Ku.writtenI l = l.reverse) := by show _ = _; rw [HDEF.out, if_pos (.inr ⟨hb, hc⟩)]
        clear hb ha hc
        go_enter Try.func33, Try.ntmps33
        obtain ⟨d0, d1, d2, d3⟩ := HCL.out w (Below.refl w.heap.size w)
        have hne := LW.any w
        go_wp2_with fail
        refine wp_region_lw (by kernel_rfl) (by kernel_rfl) ?_
        repeat (go_big_quiet_step (fail))
        refine wpQuiet_nil ?_
        rintro _ ⟨E, rfl⟩
        have HB1 := Nu.hid (((Below.refl w.heap.size w)).trans (E.h.mono ((Below.refl w.heap.size w)).size))
        obtain ⟨W1, hWE⟩ : ∃ WE, WE = E.val := ⟨_, rfl⟩
        rw [← hWE] at HB1 ⊢
        clear d0 d1 d2 d3 hne hWE
        obtain ⟨d0, d1, d2, d3⟩ := HCL.out W1 HB1.out
        have hne := LW.any W1
        go_wp2_with fail
        refine wp_region_lw (by kernel_rfl) (by kernel_rfl) ?_
        repeat (go_big_quiet_step (fail))
        refine wpQuiet_nil ?_
        rintro _ ⟨E, rfl⟩
        have HB2 := Nu.hid ((HB1.out).trans (E.h.mono (HB1.out).size))
        obtain ⟨W2, hWE⟩ : ∃ WE, WE = E.val := ⟨_, rfl⟩
        rw [← hWE] at HB2 ⊢
        clear d0 d1 d2 d3 hne hWE
        have HT := Nu.hid (HRV.out W2 HB2.out)
        go_wp2_with (go_at_call 48; refine HT.out.mono ?_; rintro e w3 ⟨rfl, ho, hgr⟩; refine Hid.out ?_)
        refine Nu.hid ?_
        have HO := Nu.hid ho
        have HB3 := Nu.hid ((HB2.out.mono hB).grown hgr (Nat.le_trans hB HB2.out.size) (fun k hk => HLO.out k hk))
        clear ho hgr
        go_wp2
        go_ret
        exact ⟨rfl, by rw [HR.out]; exact HO.out, HB3.out⟩
      · have u2 : decide (xm < x1) = false := by simp only [decide_eq_false_iff_not]; exact hc
        have HR : Hid (Ku.writtenI l = l) := by show _ = _; rw [HDEF.out, if_neg (by omega)]
        clear hb ha hc
        go_enter Try.func33, Try.ntmps33
        obtain ⟨d0, d1, d2, d3⟩ := HCL.out w (Below.refl w.heap.size w)
        have hne := LW.any w
        go_wp2_with fail
        refine wp_region_lw (by kernel_rfl) (by kernel_rfl) ?_
        repeat (go_big_quiet_step (fail))
        refine wpQuiet_nil ?_
        rintro _ ⟨E, rfl⟩
        have HB1 := Nu.hid (((Below.refl w.heap.size w)).trans (E.h.mono ((Below.refl w.heap.size w)).size))
        obtain ⟨W1, hWE⟩ : ∃ WE, WE = E.val := ⟨_, rfl⟩
        rw [← hWE] at HB1 ⊢
        clear d0 d1 d2 d3 hne hWE
        obtain ⟨d0, d1, d2, d3⟩ := HCL.out W1 HB1.out
        have hne := LW.any W1
        go_wp2_with fail
        refine wp_region_lw (by kernel_rfl) (by kernel_rfl) ?_
        repeat (go_big_quiet_step (fail))
        refine wpQuiet_nil ?_
        rintro _ ⟨E, rfl⟩
        have HB2 := Nu.hid ((HB1.out).trans (E.h.mono (HB1.out).size))
        obtain ⟨W2, hWE⟩ : ∃ WE, WE = E.val := ⟨_, rfl⟩
        rw [← hWE] at HB2 ⊢
        clear d0 d1 d2 d3 hne hWE
        have HO := Nu.hid (HOWN.out.later HB2.out)
        go_wp2
        go_ret
        exact ⟨rfl, by rw [HR.out]; exact HO.out, HB2.out.mono hB⟩
    · have t1 : cb = false := by rw [← hcb]; simp [hb]
      subst t1
      have HR : Hid (Ku.writtenI l = l) := by show _ = _; rw [HDEF.out, if_neg (by omega)]
      clear hb ha
      go_enter Try.func33, Try.ntmps33
      obtain ⟨d0, d1, d2, d3⟩ := HCL.out w (Below.refl w.heap.size w)
      have hne := LW.any w
      go_wp2_with fail
      refine wp_region_lw (by kernel_rfl) (by kernel_rfl) ?_
      repeat (go_big_quiet_step (fail))
      refine wpQuiet_nil ?_
      rintro _ ⟨E, rfl⟩
      have HB1 := Nu.hid (((Below.refl w.heap.size w)).trans (E.h.mono ((Below.refl w.heap.size w)).size))
      obtain ⟨W1, hWE⟩ : ∃ WE, WE = E.val := ⟨_, rfl⟩
      rw [← hWE] at HB1 ⊢
      clear d0 d1 d2 d3 hne hWE
      obtain ⟨d0, d1, d2, d3⟩ := HCL.out W1 HB1.out
      have hne := LW.any W1
      go_wp2_with fail
      refine wp_region_lw (by kernel_rfl) (by kernel_rfl) ?_
      repeat (go_big_quiet_step (fail))
      refine wpQuiet_nil ?_
      rintro _ ⟨E, rfl⟩
      have HB2 := Nu.hid ((HB1.out).trans (E.h.mono (HB1.out).size))
      obtain ⟨W2, hWE⟩ : ∃ WE, WE = E.val := ⟨_, rfl⟩
      rw [← hWE] at HB2 ⊢
      clear d0 d1 d2 d3 hne hWE
      have HO := Nu.hid (HOWN.out.later HB2.out)
      go_wp2
      go_ret
      exact ⟨rfl, by rw [HR.out]; exact HO.out, HB2.out.mono hB⟩

end Go.Proofs.Ytdhaaodalchpkab
