import Derived.Test.YtdhaaodalchpkaaShelf
import Derived.Test.YtdhaaodalchpkaaKuI
import Derived.Sort.OwnSortedInts
import Derived.Test.YtdhaaodalchpkaaMgA
import Derived.Test.YtdhaaodalchpkaaMgF
/-
  Layer 15, the program: slices.Reverse of a list of one's own; written.
-/
namespace Go.Proofs.Ytdhaaodalchpkaa
open Go.RowKit Go.Sort

theorem grow_none (w : World) : Sort.grow w #[] = w := by
  cases w
  simp [Sort.grow]

theorem vreverse_any (B : Nat) (v : Value) (R : List Int) (w : World) (h : OwnZ w B v R) (h0 : R ≠ []) (hl : R.length ≤ 17592186044000) :
    Calls Try.prog 57 #[v] w fun e w' => e = .returned (.tuple #[]) ∧ OwnZ w' B v R.reverse ∧ w.grownBy w' v.ownBlock := by
  have hml : R.reverse.length = R.length := List.length_reverse
  rcases h.2 with ⟨rfl, h1⟩ | ⟨g, cap, cur, rfl, hg, hh, hc, hm, hs, ht⟩
  · exact absurd (List.length_eq_zero_iff.1 h1) h0
  · rw [Nat.mul_one] at ht
    refine (Try.slices_Reverse_int g 0 cap R w (holds_of_blockI hh ht) (by omega)).mono ?_
    rintro e w' ⟨rfl, n, rfl⟩
    have a1 := ownsRow_sortedI (n := n) (os := #[]) hml hg hh hc hm hs
    have a2 := grownBy_sortedI (w := w) (g := g) (n := n) (os := #[]) R.reverse.toArray
    rw [grow_none] at a1 a2
    refine ⟨rfl, ?_, a2⟩
    unfold OwnZ
    rw [hml]
    exact a1

set_option maxRecDepth 100000 in
set_option maxHeartbeats 8000000 in
theorem vwritten_any (B : Nat) (ao : Option Addr) (q c : Nat) (l : List Int) (w : World) (hq : l.length = q) (h : OwnZ w B (.slice ao q c) l) (hB : B ≤ w.heap.size) (h2 : 2 ≤ q) (hl : q ≤ 17592186044000) :
    Calls Try.prog 43 #[.slice ao q c] w fun e w' => e = .returned (.slice ao q c) ∧ OwnZ w' B (.slice ao q c) (Ku.writtenI l) ∧ Below B w w' := by
  obtain ⟨ao', c', e, hat, -⟩ := h.form
  rw [hq] at e
  cases e
  have HOWN := Nu.hid h
  have HLO : Hid (∀ b, (Value.slice ao q c).ownBlock = some b → B ≤ b) := fun b hb => (World.ownsRow.lt h b hb).1
  obtain ⟨q1, hq1⟩ : ∃ q1, q1 = q - 1 := ⟨_, rfl⟩
  obtain ⟨q2, hq2⟩ : ∃ q2, q2 = q - 2 := ⟨_, rfl⟩
  obtain ⟨x0, hx0⟩ : ∃ x, l[0]? = some x := ⟨_, List.getElem?_eq_getElem (by omega)⟩
  obtain ⟨x1, hx1⟩ : ∃ x, l[1]? = some x := ⟨_, List.getElem?_eq_getElem (by omega)⟩
  obtain ⟨xn, hxn⟩ : ∃ x, l[q1]? = some x := ⟨_, List.getElem?_eq_getElem (by omega)⟩
  obtain ⟨xm, hxm⟩ : ∃ x, l[q2]? = some x := ⟨_, List.getElem?_eq_getElem (by omega)⟩
  obtain ⟨b, o, rfl, e0⟩ := hat 0 x0 hx0
  obtain ⟨_, _, e, e1⟩ := hat 1 x1 hx1
  cases e
  obtain ⟨_, _, e, e2⟩ := hat q1 xn hxn
  cases e
  obtain ⟨_, _, e, e3⟩ := hat q2 xm hxm
  cases e
  rw [Nat.add_zero] at e0
  have hw1 : IntKind.i64.wrap ((q : Int) - 1) = (q1 : Int) := by rw [IntKind.wrap_i64]; omega
  have hw2 : IntKind.i64.wrap ((q1 : Int) - 1) = (q2 : Int) := by rw [IntKind.wrap_i64]; omega
  have i0 : (0 : Int) < (q : Int) := by omega
  have i1 : (1 : Int) < (q : Int) := by omega
  have i2 : (0 : Int) ≤ (q1 : Int) := by omega
  have i3 : (q1 : Int) < (q : Int) := by omega
  have i4 : (0 : Int) ≤ (q2 : Int) := by omega
  have i5 : (q2 : Int) < (q : Int) := by omega
  have HCL : Hid (∀ U : World, Below w.heap.size w U → (∀ D : LW U, D.val.cell? ⟨b, o, none⟩ = some (.int .i64 x0)) ∧ (∀ D : LW U, D.val.cell? ⟨b, o + 1, none⟩ = some (.int .i64 x1)) ∧ (∀ D : LW U, D.val.cell? ⟨b, o + q1, none⟩ = some (.int .i64 xn)) ∧ (∀ D : LW U, D.val.cell? ⟨b, o + q2, none⟩ = some (.int .i64 xm))) := fun U hU =>
    have key : ∀ (D : LW U) (i : Nat) (x : Value), w.cell? ⟨b, i, none⟩ = some x → D.val.cell? ⟨b, i, none⟩ = some x := fun D i x hx => ((hU.trans (D.h.mono hU.size)).cell (p := ⟨b, i, none⟩) (block_lt_of_cell hx)).trans hx
    ⟨fun D => key D _ _ e0, fun D => key D _ _ e1, fun D => key D _ _ e2, fun D => key D _ _ e3⟩
  have HDEF : Hid (Ku.writtenI l = if xn < x0 ∨ (x0 = xn ∧ xm < x1) then l.reverse else l) := by
    show _ = _
    unfold Ku.writtenI
    rw [hq, ← hq1, ← hq2, Ku.gI_at hx0, Ku.gI_at hx1, Ku.gI_at hxn, Ku.gI_at hxm]
  have hlne : l ≠ [] := fun e => by rw [e] at hq; simp at hq; omega
  have HRV : Hid (∀ W, Below w.heap.size w W → Calls Try.prog 57 #[.slice (some ⟨b, o, none⟩) q c] W fun e w' => e = .returned (.tuple #[]) ∧ OwnZ w' B (.slice (some ⟨b, o, none⟩) q c) l.reverse ∧ W.grownBy w' (Value.slice (some ⟨b, o, none⟩) q c).ownBlock) := fun W hb => vreverse_any B _ l W (HOWN.out.later hb) hlne (by omega)
  clear h hat hx0 hx1 hxn hxm hq1 hq2 e0 e1 e2 e3 hlne
  obtain ⟨cb, hcb⟩ : ∃ cb, (x0 == xn) = cb := ⟨_, rfl⟩
  by_cases ha : xn < x0
  · have HR : Hid (Ku.writtenI l = l.reverse) := by show _ = _; rw [HDEF.out, if_pos (.inl ha)]
    have u1 : decide (xn < x0) = true := by simp only [decide_eq_true_eq]; exact ha
    clear ha
    go_enter Try.func43, Try.ntmps43
    obtain ⟨d0, d1, d2, d3⟩ := HCL.out w (Below.refl w.heap.size w)
    have hne := LW.any w
    go_wp2_with fail
    refine wp_region_lw (by kernel_rfl) (by kernel_rfl) ?_
    repeat (go_big_quiet_step (fail))
    refine wpQuiet_nil ?_
    rintro _ ⟨E, rfl⟩
    have HB1 := Nu.hid (((Below.refl w.heap.size w)).trans (E.h.mono ((Below.refl w.heap.size w)).size))
    obtain ⟨W1, hWE⟩ : ∃ WE, WE = E.val := ⟨_, rfl⟩
    rw [← hWE] at HB1 ⊢
    clear d0 d1 d2 d3 hne hWE
    obtain ⟨d0, d1, d2, d3⟩ := HCL.out W1 HB1.out
    have hne := LW.any W1
    go_wp2_with fail
    refine wp_region_lw (by kernel_rfl) (by kernel_rfl) ?_
    repeat (go_big_quiet_step (fail))
    refine wpQuiet_nil ?_
    rintro _ ⟨E, rfl⟩
    have HB2 := Nu.hid ((HB1.out).trans (E.h.mono (HB1.out).size))
    obtain ⟨W2, hWE⟩ : ∃ WE, WE = E.val := ⟨_, rfl⟩
    rw [← hWE] at HB2 ⊢
    clear d0 d1 d2 d3 hne hWE
    have HT := Nu.hid (HRV.out W2 HB2.out)
    go_wp2_with (go_at_call 57; refine HT.out.mono ?_; rintro e w3 ⟨rfl, ho, hgr⟩; refine Hid.out ?_)
    refine Nu.hid ?_
    have HO := Nu.hid ho
    have HB3 := Nu.hid ((HB2.out.mono hB).grown hgr (Nat.le_trans hB HB2.out.size) (fun k hk => HLO.out k hk))
    clear ho hgr
    go_wp2
    go_ret
    exact ⟨rfl, by rw [HR.out]; exact HO.out, HB3.out⟩
  · have u1 : decide (xn < x0) = false := by simp only [decide_eq_false_iff_not]; exact ha
    by_cases hb : x0 = xn
    · have t1 : cb = true := by rw [← hcb]; simp [hb]
      subst t1
      by_cases hc : xm < x1
      · have u2 : decide (xm < x1) = true := by simp only [decide_eq_true_eq]; exact hc
        have HR : Hid (Ku.writtenI l = l.reverse) := by show _ = _; rw [HDEF.out, if_pos (.inr ⟨hb, hc⟩)]
        clear hb ha hc
        go_enter Try.func43, Try.ntmps43
        obtain ⟨d0, d1, d2, d3⟩ := HCL.out w (Below.refl w.heap.size w)
        have hne := LW.any w
        go_wp2_with fail
        refine wp_region_lw (by kernel_rfl) (by kernel_rfl) ?_
        repeat (go_big_quiet_step (fail))
        refine wpQuiet_nil ?_
        rintro _ ⟨E, rfl⟩
        have HB1 := Nu.hid (((Below.refl w.heap.size w)).trans (E.h.mono ((Below.refl w.heap.size w)).size))
        obtain ⟨W1, hWE⟩ : ∃ WE, WE = E.val := ⟨_, rfl⟩
        rw [← hWE] at HB1 ⊢
        clear d0 d1 d2 d3 hne hWE
        obtain ⟨d0, d1, d2, d3⟩ := HCL.out W1 HB1.out
        have hne := LW.any W1
        go_wp2_with fail
        refine wp_region_lw (by kernel_rfl) (by kernel_rfl) ?_
        repeat (go_big_quiet_step (fail))
        refine wpQuiet_nil ?_
        rintro _ ⟨E, rfl⟩
        have HB2 := Nu.hid ((HB1.out).trans (E.h.mono (HB1.out).size))
        obtain ⟨W2, hWE⟩ : ∃ WE, WE = E.val := ⟨_, rfl⟩
        rw [← hWE] at HB2 ⊢
        clear d0 d1 d2 d3 hne hWE
        have HT := Nu.hid (HRV.out W2 HB2.out)
        go_wp2_with (go_at_call 57; refine HT.out.mono ?_; rintro e w3 ⟨rfl, ho, hgr⟩; refine Hid.out ?_)
        refine Nu.hid ?_
        have HO := Nu.hid ho
        have HB3 := Nu.hid ((HB2.out.mono hB).grown hgr (Nat.le_trans hB HB2.out.size) (fun k hk => HLO.out k hk))
        clear ho hgr
        go_wp2
        go_ret
        exact ⟨rfl, by rw [HR.out]; exact HO.out, HB3.out⟩
      · have u2 : decide (xm < x1) = false := by simp only [decide_eq_false_iff_not]; exact hc
        have HR : Hid (Ku.writtenI l = l) := by show _ = _; rw [HDEF.out, if_neg (by omega)]
        clear hb ha hc
        go_enter Try.func43, Try.ntmps43
        obtain ⟨d0, d1, d2, d3⟩ := HCL.out w (Below.refl w.heap.size w)
        have hne := LW.any w
        go_wp2_with fail
        refine wp_region_lw (by kernel_rfl) (by kernel_rfl) ?_
        repeat (go_big_quiet_step (fail))
        refine wpQuiet_nil ?_
        rintro _ ⟨E, rfl⟩
        have HB1 := Nu.hid (((Below.refl w.heap.size w)).trans (E.h.mono ((Below.refl w.heap.size w)).size))
        obtain ⟨W1, hWE⟩ : ∃ WE, WE = E.val := ⟨_, rfl⟩
        rw [← hWE] at HB1 ⊢
        clear d0 d1 d2 d3 hne hWE
        obtain ⟨d0, d1, d2, d3⟩ := HCL.out W1 HB1.out
        have hne := LW.any W1
        go_wp2_with fail
        refine wp_region_lw (by kernel_rfl) (by kernel_rfl) ?_
        repeat (go_big_quiet_step (fail))
        refine wpQuiet_nil ?_
        rintro _ ⟨E, rfl⟩
        have HB2 := Nu.hid ((HB1.out).trans (E.h.mono (HB1.out).size))
        obtain ⟨W2, hWE⟩ : ∃ WE, WE = E.val := ⟨_, rfl⟩
        rw [← hWE] at HB2 ⊢
        clear d0 d1 d2 d3 hne hWE
        have HO := Nu.hid (HOWN.out.later HB2.out)
        go_wp2
        go_ret
        exact ⟨rfl, by rw [HR.out]; exact HO.out, HB2.out.mono hB⟩
    · have t1 : cb = false := by rw [← hcb]; simp [hb]
      subst t1
      have HR : Hid (Ku.writtenI l = l) := by show _ = _; rw [HDEF.out, if_neg (by omega)]
      clear hb ha
      go_enter Try.func43, Try.ntmps43
      obtain ⟨d0, d1, d2, d3⟩ := HCL.out w (Below.refl w.heap.size w)
      have hne := LW.any w
      go_wp2_with fail
      refine wp_region_lw (by kernel_rfl) (by kernel_rfl) ?_
      repeat (go_big_quiet_step (fail))
      refine wpQuiet_nil ?_
      rintro _ ⟨E, rfl⟩
      have HB1 := Nu.hid (((Below.refl w.heap.size w)).trans (E.h.mono ((Below.refl w.heap.size w)).size))
      obtain ⟨W1, hWE⟩ : ∃ WE, WE = E.val := ⟨_, rfl⟩
      rw [← hWE] at HB1 ⊢
      clear d0 d1 d2 d3 hne hWE
      obtain ⟨d0, d1, d2, d3⟩ := HCL.out W1 HB1.out
      have hne := LW.any W1
      go_wp2_with fail
      refine wp_region_lw (by kernel_rfl) (by kernel_rfl) ?_
      repeat (go_big_quiet_step (fail))
      refine wpQuiet_nil ?_
      rintro _ ⟨E, rfl⟩
      have HB2 := Nu.hid ((HB1.out).trans (E.h.mono (HB1.out).size))
      obtain ⟨W2, hWE⟩ : ∃ WE, WE = E.val := ⟨_, rfl⟩
      rw [← hWE] at HB2 ⊢
      clear d0 d1 d2 d3 hne hWE
      have HO := Nu.hid (HOWN.out.later HB2.out)
      go_wp2
      go_ret
      exact ⟨rfl, by rw [HR.out]; exact HO.out, HB2.out.mono hB⟩

end Go.Proofs.Ytdhaaodalchpkaa

/-
  The document's Go and cycle of layer 15.
-/
namespace Go.Proofs.Ytdhaaodalchpkaa
open Go.RowKit Go.Sort

def Ku.slLen (v : Value) : Nat := match v with | .slice _ n _ => n | _ => 0

theorem Ku.deg_at {n : Nat} {es : List (Int × Int)} (hv : Si.Val (n : Int) es) {v : Nat} (h : v < n) : (Si.degs (n : Int) es)[v]? = some (Ku.dg es v : Int) := by
  have := Cs.degs_out hv es.length (Nat.le_refl _) v h
  rw [List.take_length] at this
  exact this

set_option maxRecDepth 100000 in
set_option maxHeartbeats 8000000 in
theorem kgo_any (n : Nat) (ao : Option Addr) (cap : Nat) (es : List (Int × Int)) (da : Option Addr) (dc : Nat) (w : World) (hv : Si.Val (n : Int) es) (he : EdgesAt w ao es) (hd : IntsAt w da (Si.degs (n : Int) es)) (h : Nat) (hh : h < 2 * es.length) :
    Calls Try.prog 46 #[.agg #[.int .i64 (n : Int), .slice ao es.length cap], .slice da n dc, .int .i64 (Cs.fr es h : Int), .int .i64 ((h / 2 : Nat) : Int)] w fun e w' => ∃ v, e = .returned v ∧ OwnZ w' w.heap.size v (Ku.ZL (Ku.vs (Ku.gs es hv) (Ku.all (Ku.gs es hv).toSys h))) ∧ Below w.heap.size w w' := by
  obtain ⟨W, hW⟩ : ∃ W, W = w.alloc (.cells #[.int .i64 (n : Int), .slice ao es.length cap] 24) := ⟨_, rfl⟩
  have hB0 : Below w.heap.size w W := by rw [hW]; exact (Below.refl _ _).alloc (Nat.le_refl _) _
  have g1 : W.heap[w.heap.size]? = some (.cells #[.int .i64 (n : Int), .slice ao es.length cap] 24 (0, 0)) := by rw [hW]; exact heap_alloc_new w _
  have hfew := hv.few
  obtain ⟨T, hT⟩ : ∃ T, Ku.all (Ku.gs es hv).toSys h = T := ⟨_, rfl⟩
  have hh' : h < (Ku.gs es hv).toSys.M := hh
  obtain ⟨-, hnd, hTlt, -⟩ := Ku.all_spec hh'
  have HZ0 := Nu.hid (Ku.all_zero hh')
  have HNONE : Hid (∀ j x, T[j]? = some x → Ku.nxt es x = none → j + 1 = T.length) := fun j x hx e => by rw [← hT] at hx ⊢; exact Ku.all_none hh' hx e
  have HBACK : Hid (∀ j x, T[j]? = some x → Ku.nxt es x = some h → j + 1 = T.length) := fun j x hx e => by rw [← hT] at hx ⊢; exact Ku.all_back hh' hx e
  have HGO : Hid (∀ j x k, T[j]? = some x → Ku.nxt es x = some k → k ≠ h → T[j + 1]? = some k) := fun j x k hx e hk => by rw [← hT] at hx ⊢; exact Ku.all_go hh' hx e hk
  have HTW : Hid (∀ j x k, T[j]? = some x → Ku.nxt es x = some k → k ≠ Cs.twin h) := fun j x k hx e => by rw [← hT] at hx; exact Ku.all_twin hh' hx e
  rw [hT] at HZ0 hnd hTlt ⊢
  have hTl : T.length ≤ 8388608 := by
    have := Ku.few_below hnd hTlt
    have h2 : (Ku.gs es hv).toSys.M = 2 * es.length := rfl
    omega
  have HLT : Hid (∀ x ∈ T, x < 2 * es.length) := hTlt
  have HV := Nu.hid hv
  have HE := Nu.hid (he.later hB0)
  have HD := Nu.hid (hd.later hB0)
  have HB0 := Nu.hid hB0
  have HW := Nu.hid hW
  have HG := Nu.hid g1
  have HOTH : Hid (∀ (x : Nat) (p : Int × Int) (U : World), x < 2 * es.length → es[x / 2]? = some p → Calls Try.prog 61 #[.agg #[.int .i64 p.1, .int .i64 p.2], .int .i64 (Cs.fr es x : Int)] U fun e w' => e = .returned (.int .i64 (Cs.to es x : Int)) ∧ Below U.heap.size U w') := fun x p U hx hp => by
    have := kother_any p.1 p.2 (Cs.fr es x : Int) U
    rw [Ku.other_end hv hx hp] at this
    exact this
  have HON : Hid (∀ (x k : Nat) (U : World), Ku.nxt es x = some k → Below W.heap.size W U → Calls Try.prog 62 #[.agg #[.int .i64 (n : Int), .slice ao es.length cap], .int .i64 (Cs.to es x : Int), .int .i64 ((x / 2 : Nat) : Int)] U fun e w' => e = .returned (.int .i64 ((k / 2 : Nat) : Int)) ∧ Below U.heap.size U w') := fun x k U hk hU => by
    refine (kon_any (n : Int) ao cap es (Cs.to es x : Int) ((x / 2 : Nat) : Int) U (HE.out.later hU) (by omega)).mono ?_
    rintro e w' ⟨r, rfl, hon, hb⟩
    refine ⟨?_, hb⟩
    rcases hon with ⟨rfl, hno⟩ | ⟨i, p, rfl, hp, hi, hin⟩
    · exfalso
      obtain ⟨p, hp, hin, hne, _⟩ := Ku.next_at hv hk
      have := hno (k / 2) p hp (by omega)
      rcases hin with hin | hin
      · exact this.1 hin
      · exact this.2 hin
    · rw [Ku.on_next hv hk hp (by omega) hin]
  have HEND : Hid (∀ j, j + 1 = T.length → T.take (j + 1) = T) := fun j hj => List.take_of_length_le (by omega)
  have HEND2 : Hid (∀ (x k : Nat), Ku.nxt es x = some k → k / 2 = h / 2 → k ≠ Cs.twin h → k = h) := fun x k _ e1 e2 => by
    unfold Cs.twin at e2
    split at e2 <;> omega
  obtain ⟨⟨p1, p2⟩, hp⟩ := Ku.half_at hh
  obtain ⟨eb, eo, rfl, c0, c1⟩ := HE.out (h / 2) _ hp
  dsimp only at c0 c1
  obtain ⟨ee, hee⟩ : ∃ e, e = h / 2 := ⟨_, rfl⟩
  have HP1 := Nu.hid (HOTH.out h (p1, p2) W hh hp)
  dsimp only at HP1
  rw [← hee] at c0 c1 HEND2 ⊢
  have heel : ee < es.length := by omega
  have he0 : (0 : Int) ≤ (ee : Int) := by omega
  have he1 : (ee : Int) < (es.length : Int) := by omega
  obtain ⟨q0, q1, -⟩ := pair_cells g1
  have HEE := Nu.hid hee
  clear he hd hB0 g1 hW hT hnd hTlt hp hee hh'
  rw [HW.out] at c0 c1 q0 q1
  go_enter Try.func46, Try.ntmps46
  go_wp2_with (go_at_call 61; rw [← HW.out]; refine HP1.out.mono ?_; rintro e w1 ⟨rfl, hb1⟩; refine Hid.out ?_)
  refine Nu.hid ?_
  have hs1 := hb1.size
  have HI : Hid (IntsBlk (w1.alloc (.cells #[.int .i64 (Cs.fr es h : Int), .int .i64 (Cs.to es h : Int)] 3)) w1.heap.size [(Cs.fr es h : Int), (Cs.to es h : Int)]) := heap_alloc_new w1 _
  have HB1 := Nu.hid hb1
  have hsw := HB0.out.size
  clear hb1 c0 c1 q0 q1
  go_wp2
  go_loopw [9, 10, 11] (fun a v l wr => ∃ (j x : Nat), T[j]? = some x ∧ a = .int .i64 (Cs.to es x : Int) ∧ l = .int .i64 ((x / 2 : Nat) : Int) ∧ OwnZ wr W.heap.size v (Ku.ZL (Ku.vs (Ku.gs es HV.out) (T.take (j + 1)))) ∧ Below W.heap.size W wr) (fun _ v _ _ => (T.length + 2) - Ku.slLen v)
  case atStart =>
    refine ⟨0, h, HZ0.out, rfl, by rw [HEE.out], ?_, HB1.out.alloc (by simpa using hs1) _⟩
    have e1 : T.take 1 = [h] := by
      have := HZ0.out
      cases T with
      | nil => simp at this
      | cons y T => simp at this; subst this; rfl
    have e2 : Ku.ZL (Ku.vs (Ku.gs es HV.out) (T.take (0 + 1))) = [(Cs.fr es h : Int), (Cs.to es h : Int)] := by
      rw [e1]
      show [((Cs.fr es h : Nat) : Int), ((Cs.fr es (Cs.twin h) : Nat) : Int)] = _
      rw [Cs.fr_twin]
    rw [e2]
    exact IntsBlk.own HI.out (by omega) rfl (by omega)
  case round =>
    obtain ⟨j, x, hx, rfl, rfl, hown, hb⟩ := hrel
    obtain ⟨U, rfl⟩ : ∃ U, U = wr := ⟨wr, rfl⟩
    have hjT := (List.getElem?_eq_some_iff.1 hx).1
    have hne : T.take (j + 1) ≠ [] := fun e => by
      have := congrArg List.length e
      simp at this
      rw [this] at hjT
      simp at hjT
    have hlen : (Ku.ZL (Ku.vs (Ku.gs es HV.out) (T.take (j + 1)))).length = j + 2 := by
      rw [Ku.ZL_length, Ku.vs_length hne, List.length_take]
      omega
    obtain ⟨oa, oc, hve, -, -⟩ := hown.form
    rw [hlen] at hve
    subst hve
    have hxl := HLT.out x (List.mem_of_getElem? hx)
    have htn := (Cs.half_lt HV.out hxl).2
    have hdx := Ku.deg_at HV.out htn
    obtain ⟨db, dof, rfl, dcell⟩ := (HD.out.later hb) _ _ hdx
    have HOWN := Nu.hid hown
    have HB := Nu.hid hb
    have HX := Nu.hid hx
    have HNE := Nu.hid hne
    have HLN := Nu.hid hlen
    have htn0 : (0 : Int) ≤ (Cs.to es x : Int) := by omega
    have htn1 : (Cs.to es x : Int) < (n : Int) := by omega
    obtain ⟨q0, q1, -⟩ := pair_cells ((hb.block _ (lt_of_block HG.out)).trans HG.out)
    have hsU := hb.size
    obtain ⟨dv, hdv⟩ : ∃ dv, (Ku.dg es (Cs.to es x) : Int) = dv := ⟨_, rfl⟩
    rw [hdv] at dcell
    obtain ⟨ta, hta⟩ : ∃ ta, ta = Cs.to es x := ⟨_, rfl⟩
    rw [← hta] at dcell htn0 htn1 ⊢
    obtain ⟨lx, hlx⟩ : ∃ lx, lx = x / 2 := ⟨_, rfl⟩
    rw [← hlx]
    have HTA := Nu.hid hta
    have HLX := Nu.hid hlx
    clear hown hb hx hne hlen hdx hta hlx
    by_cases h2 : Ku.dg es (Cs.to es x) = 2
    · have t1 : (dv == 2) = true := by rw [← hdv, h2]; rfl
      obtain ⟨k, hk⟩ : ∃ k, Ku.nxt es x = some k := by
        cases hk : Ku.nxt es x with
        | none => exact absurd h2 ((Ku.nxt_none hxl).1 hk)
        | some k => exact ⟨k, rfl⟩
      obtain ⟨⟨r1, r2⟩, hr, -, -, hkl, hkf⟩ := Ku.next_at HV.out hk
      have HCO := HON.out x k U hk HB.out
      rw [← HTA.out, ← HLX.out] at HCO
      have HCO := Nu.hid HCO
      obtain ⟨kk, hkk⟩ : ∃ kk, kk = k / 2 := ⟨_, rfl⟩
      rw [← hkk] at HCO
      have HKK := Nu.hid hkk
      have HK := Nu.hid hk
      have HR := Nu.hid hr
      have hkkl : (kk : Int) < (es.length : Int) := by omega
      have hkk0 : (0 : Int) ≤ (kk : Int) := by omega
      clear h2 hk hr hdv hkk
      go_wp2_with (go_at_call 62; refine HCO.out.mono ?_; rintro e U1 ⟨rfl, hb1⟩; refine Hid.out ?_)
      refine Nu.hid ?_
      have HBU1 := Nu.hid hb1
      have HB1' := Nu.hid (HB.out.trans (hb1.mono HB.out.size))
      have hsU1 := hb1.size
      clear hb1 q0 q1 dcell
      by_cases heq : kk = ee
      · have t2 : ((kk : Int) == (ee : Int)) = true := by simp [heq]
        have hkh : k = h := HEND2.out x k HK.out (by rw [← HKK.out]; exact heq) (HTW.out j x k HX.out HK.out)
        have hjl := HBACK.out j x HX.out (by rw [HK.out, hkh])
        have HF := Nu.hid (HEND.out j hjl)
        clear heq hkh hjl
        go_wp2
        go_ret
        refine ⟨_, rfl, ?_, HB0.out.trans (HB1'.out.mono HB0.out.size)⟩
        have := (HOWN.out.later HBU1.out).lower hsw
        rw [HF.out] at this
        exact this
      · have t2 : ((kk : Int) == (ee : Int)) = false := by simp; omega
        have hkh : k ≠ h := fun e => heq (by rw [HKK.out, HEE.out, e])
        have HNX := Nu.hid (HGO.out j x k HX.out HK.out hkh)
        have hr2 := HR.out
        rw [← HKK.out] at hr2
        obtain ⟨_, _, e9, c0, c1⟩ := (HE.out.later HB1'.out) kk _ hr2
        cases e9
        dsimp only at c0 c1
        have HOT2 := HOTH.out k (r1, r2) U1 hkl HR.out
        rw [hkf, ← HTA.out] at HOT2
        dsimp only at HOT2
        have HOT2 := Nu.hid HOT2
        obtain ⟨q0, q1, -⟩ := pair_cells ((HB1'.out.block _ (lt_of_block HG.out)).trans HG.out)
        clear heq hkh hr2
        go_wp2_with (go_at_call 61; refine HOT2.out.mono ?_; rintro e U2 ⟨rfl, hb2⟩; refine Hid.out ?_)
        refine Nu.hid ?_
        have HB2 := Nu.hid (HB1'.out.trans (hb2.mono HB1'.out.size))
        have hO2 := (HOWN.out.later HBU1.out).later hb2
        have HO2 := Nu.hid hO2
        have hsU2 := HB2.out.size
        clear hb2 hO2 c0 c1 q0 q1
        go_wp2_with (at_builtin; refine wpList_push rfl _ _ rfl _ W.heap.size _ _ (Cs.to es k : Int) HO2.out (by omega) (by rw [HLN.out]; omega) rfl rfl ?_; refine Hid.out ?_)
        refine Nu.hid ?_
        intro v' w3 hrow3 _ _ hb3
        have HROW3 := Nu.hid hrow3
        have HB3 := Nu.hid (HB2.out.trans hb3)
        have hnew : OwnZ w3 W.heap.size v' (Ku.ZL (Ku.vs (Ku.gs es HV.out) (T.take (j + 1 + 1)))) := by
          rw [Ku.take_next HNX.out, Ku.vs_snoc HNE.out]
          have e : Ku.ZL (Ku.vs (Ku.gs es HV.out) (T.take (j + 1)) ++ [(Ku.gs es HV.out).to k]) = Ku.ZL (Ku.vs (Ku.gs es HV.out) (T.take (j + 1))) ++ [(Cs.to es k : Int)] := by
            unfold Ku.ZL
            rw [List.map_append, Ku.gs_to]
            rfl
          rw [e]
          exact hrow3
        have hsl : Ku.slLen v' = j + 3 := by
          obtain ⟨a', c', e, -, -⟩ := hrow3.form
          rw [e, List.length_append, HLN.out]
          rfl
        have HNEW := Nu.hid hnew
        have HSL := Nu.hid hsl
        clear hrow3 hb3 hnew hsl
        go_wp2
        go_roundw
        case rel => exact ⟨j + 1, k, HNX.out, rfl, by rw [HKK.out], HNEW.out, HB3.out⟩
        case measure =>
          rw [HSL.out]
          show _ < (T.length + 2) - (j + 2)
          omega
    · have t1 : (dv == 2) = false := by rw [← hdv]; simp; omega
      have hjl := HNONE.out j x HX.out ((Ku.nxt_none hxl).2 h2)
      have HF := Nu.hid (HEND.out j hjl)
      clear h2 hjl hdv
      go_wp2
      go_ret
      refine ⟨_, rfl, ?_, HB0.out.trans (HB.out.mono HB0.out.size)⟩
      have := HOWN.out.lower hsw
      rw [HF.out] at this
      exact this

end Go.Proofs.Ytdhaaodalchpkaa

/-
  The document's cycle and Chain of layer 15.
-/
namespace Go.Proofs.Ytdhaaodalchpkaa
open Go.RowKit Go.Sort

namespace Ku
/-- Turned to begin at place k, and closed. -/
def turnI (l : List Int) (L k i : Nat) : List Int := (List.range i).map fun t => gI l ((k + t) % L)
theorem turnI_succ (l : List Int) (L k i : Nat) : turnI l L k (i + 1) = turnI l L k i ++ [gI l ((k + i) % L)] := by
  unfold turnI
  rw [List.range_succ, List.map_append]
  rfl
theorem turnI_length (l : List Int) (L k i : Nat) : (turnI l L k i).length = i := by simp [turnI]
end Ku

/-- What cycle answers. -/
def Ku.CycPost (l : List Int) (L : Nat) (w : World) (e : Ending) (w' : World) : Prop :=
  ∃ (k : Nat) (v : Value), k < L ∧ (∀ i, i < L → Ku.gI l k ≤ Ku.gI l i) ∧ e = .returned v ∧ OwnZ w' w.heap.size v (Ku.writtenI (Ku.turnI l L k L ++ [Ku.gI l k])) ∧ Below w.heap.size w w'

set_option maxRecDepth 100000 in
set_option maxHeartbeats 4000000 in
theorem kcycle_any (ao : Option Addr) (q c L : Nat) (l : List Int) (w : World) (hq : l.length = q) (h : IntsAt w ao l) (hL : q = L + 1) (h1 : 1 ≤ L) (hc : q ≤ c) (hl : q ≤ 8388610) :
    Calls Try.prog 47 #[.slice ao q c] w (Ku.CycPost l L w) := by
  have hw1 : IntKind.i64.wrap ((q : Int) - 1) = (L : Int) := by rw [IntKind.wrap_i64]; omega
  have i0 : (0 : Int) ≤ (L : Int) := by omega
  have i1 : (L : Int) ≤ (q : Int) := by omega
  have i2 : (q : Int) ≤ (c : Int) := by omega
  have i3 : (L : Int) ≤ (c : Int) := by omega
  have HL := Nu.hid h
  have HQ := Nu.hid hq
  have HLQ := Nu.hid hL
  have hat : IntsAt w ao (l.take L) := fun j x hj => by
    have hjl := (List.getElem?_eq_some_iff.1 hj).1
    rw [List.getElem?_take, if_pos (by simp at hjl; omega)] at hj
    exact h j x hj
  have HLE := Nu.hid (kleast_any ao L c (l.take L) w (by rw [List.length_take]; omega) hat (by omega) (by omega))
  have HGT : Hid (∀ i, i < L → (l.take L).getD i 0 = Ku.gI l i) := fun i hi => by
    unfold Ku.gI
    rw [List.getD_eq_getElem?_getD, List.getD_eq_getElem?_getD, List.getElem?_take, if_pos hi]
  have HAT : Hid (∀ i, i < L → l[i]? = some (Ku.gI l i)) := fun i hi => by
    unfold Ku.gI
    rw [List.getD_eq_getElem?_getD, List.getElem?_eq_getElem (by omega)]
    rfl
  clear h hq hat hL
  go_enter Try.func47, Try.ntmps47
  go_wp2_with (go_at_call 63; refine HLE.out.mono ?_; rintro e w1 ⟨k, rfl, hk, hmin, hb1⟩; refine Hid.out ?_)
  refine Nu.hid ?_
  have HMIN : Hid (∀ i, i < L → Ku.gI l k ≤ Ku.gI l i) := fun i hi => by
    have := hmin i hi
    rw [HGT.out k hk, HGT.out i hi] at this
    exact this
  have HB1 := Nu.hid hb1
  clear hmin hb1 HLE
  go_wp2
  go_loopw [5, 6] (fun v cv wr => ∃ (i : Nat), i ≤ L ∧ cv = .int .i64 (i : Int) ∧ OwnZ wr w.heap.size v (Ku.turnI l L k i) ∧ Below w.heap.size w wr) (fun _ cv _ => L - (intOf cv).toNat)
  case atStart => exact ⟨0, Nat.zero_le _, rfl, OwnZ.nil _ _, HB1.out⟩
  case round =>
    obtain ⟨i, hi, rfl, hown, hb⟩ := hrel
    have HOWN := Nu.hid hown
    have HB := Nu.hid hb
    have hs0 := hb.size
    have hwi : IntKind.i64.wrap ((i : Int) + 1) = (i : Int) + 1 := by rw [IntKind.wrap_i64]; omega
    by_cases hlt : i < L
    · have hlti : (i : Int) < (L : Int) := by omega
      obtain ⟨u, hu⟩ : ∃ u, u = (k + i) % L := ⟨_, rfl⟩
      have hul : u < L := by rw [hu]; exact Nat.mod_lt _ (by omega)
      obtain ⟨s, hs⟩ : ∃ s : Nat, (k : Int) + (i : Int) = (s : Int) := ⟨k + i, by omega⟩
      have hwks : IntKind.i64.wrap (s : Int) = (s : Int) := by rw [IntKind.wrap_i64]; omega
      have hrem : (s : Int).tmod (L : Int) = (u : Int) := by
        rw [Int.tmod_eq_emod_of_nonneg (by omega), hu, show k + i = s by omega]
        exact (Int.natCast_emod s L).symm
      have u0 : (0 : Int) ≤ (u : Int) := by omega
      have u1 : (u : Int) < (L : Int) := by omega
      have hLne : ((L : Int) == 0) = false := by simp; omega
      have hLne2 : (L : Int) ≠ 0 := by omega
      obtain ⟨b, o, rfl, d0⟩ := (HL.out.later hb) u _ (HAT.out u hul)
      have HU := Nu.hid hu
      have hll : (Ku.turnI l L k i).length ≤ 17592186044000 := by rw [Ku.turnI_length]; omega
      clear hown hb hu
      go_wp2_with (at_builtin; refine wpList_push rfl _ _ rfl _ w.heap.size _ _ (Ku.gI l u) HOWN.out hs0 hll rfl rfl ?_; refine Hid.out ?_)
      refine Nu.hid ?_
      intro v' w3 hrow3 _ _ hb3
      have HROW3 := Nu.hid hrow3
      have HB3 := Nu.hid (HB.out.trans hb3)
      clear hrow3 hb3
      go_wp2
      go_roundw
      case rel => exact ⟨i + 1, by omega, by go_num, by rw [Ku.turnI_succ, ← HU.out]; exact HROW3.out, HB3.out⟩
      case measure => simp [intOf]; omega
    · have hd : ¬ ((i : Int) < (L : Int)) := by omega
      obtain rfl : i = L := by omega
      have k0 : (0 : Int) ≤ (k : Int) := by omega
      have k1 : (k : Int) < (i : Int) := by omega
      obtain ⟨b, o, rfl, d0⟩ := (HL.out.later hb) k _ (HAT.out k hk)
      have hll : (Ku.turnI l i k i).length ≤ 17592186044000 := by rw [Ku.turnI_length]; omega
      clear hown hb
      go_wp2_with (at_builtin; refine wpList_push rfl _ _ rfl _ w.heap.size _ _ (Ku.gI l k) HOWN.out hs0 hll rfl rfl ?_; refine Hid.out ?_)
      refine Nu.hid ?_
      intro v' w3 hrow3 _ _ hb3
      have hlen : (Ku.turnI l i k i ++ [Ku.gI l k]).length = q := by rw [List.length_append, Ku.turnI_length]; have := HLQ.out; simp; omega
      obtain ⟨xa, xc, hve, -, -⟩ := hrow3.form
      rw [hlen] at hve
      subst hve
      have hs3 : w.heap.size ≤ w3.heap.size := by have := hb3.size; omega
      have HWR := Nu.hid (kwritten_any w.heap.size xa q xc _ w3 hlen hrow3 hs3 (by have := HLQ.out; omega) (by omega))
      have HB3 := Nu.hid (HB.out.trans hb3)
      clear hrow3 hb3 hlen
      go_wp2_with (go_at_call 49; refine HWR.out.mono ?_; rintro e w4 ⟨v, rfl, ho, hb4⟩; refine Hid.out ?_)
      refine Nu.hid ?_
      have HO := Nu.hid ho
      have HB4 := Nu.hid (HB3.out.trans (hb4.mono HB3.out.size))
      clear ho hb4
      go_wp2
      go_ret
      exact ⟨k, _, hk, HMIN.out, rfl, HO.out, HB4.out⟩

end Go.Proofs.Ytdhaaodalchpkaa
