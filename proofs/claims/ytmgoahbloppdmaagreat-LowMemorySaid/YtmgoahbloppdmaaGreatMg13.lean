import Derived.Test.YtmgoahbloppdmaaGreatMg10
import Derived.Test.YtmgoahbloppdmaaGreatMg08
/-
  A forest held against a graph, in memory; its lengths, its parents.
-/
namespace Go.Proofs.YtmgoahbloppdmaaGreat
open Go.RowKit

/-- The cells of a reading. -/
abbrev rcells (av : Value) (f : For) (s : Df.St) (pv bv : Value) : Array Value := #[av, .slice f.a1 s.par.length f.c1, .slice f.a2 s.hei.length f.c2, .slice f.a3 s.ord.length f.c3, .slice f.a4 s.ori.length f.c4, pv, bv]

/-- Block p holds the forest against the Adj av; it was laid since w0. -/
structure ReadAt (w0 w : World) (p : Nat) (av : Value) (f : For) (s : Df.St) (pv bv : Value) : Prop where
  bel : Below w0.heap.size w0 w
  blk : w.heap[p]? = some (.cells (rcells av f s pv bv) 101 (0, 0))
  lo : w0.heap.size ≤ p

section
variable {w0 w w' : World} {p : Nat} {av : Value} {f : For} {s : Df.St} {pv bv : Value} {n : Nat} {es : List (Int × Int)}
theorem ReadAt.c0 (h : ReadAt w0 w p av f s pv bv) : w.cell? ⟨p, 0, none⟩ = some av := by simp [World.cell?, h.blk]
theorem ReadAt.c1 (h : ReadAt w0 w p av f s pv bv) : w.cell? ⟨p, 1, none⟩ = some (.slice f.a1 s.par.length f.c1) := by simp [World.cell?, h.blk]
theorem ReadAt.c2 (h : ReadAt w0 w p av f s pv bv) : w.cell? ⟨p, 2, none⟩ = some (.slice f.a2 s.hei.length f.c2) := by simp [World.cell?, h.blk]
theorem ReadAt.c3 (h : ReadAt w0 w p av f s pv bv) : w.cell? ⟨p, 3, none⟩ = some (.slice f.a3 s.ord.length f.c3) := by simp [World.cell?, h.blk]
theorem ReadAt.c4 (h : ReadAt w0 w p av f s pv bv) : w.cell? ⟨p, 4, none⟩ = some (.slice f.a4 s.ori.length f.c4) := by simp [World.cell?, h.blk]
theorem ReadAt.c5 (h : ReadAt w0 w p av f s pv bv) : w.cell? ⟨p, 5, none⟩ = some pv := by simp [World.cell?, h.blk]
theorem ReadAt.c6 (h : ReadAt w0 w p av f s pv bv) : w.cell? ⟨p, 6, none⟩ = some bv := by simp [World.cell?, h.blk]
theorem ReadAt.free (h : ReadAt w0 w p av f s pv bv) (i : Nat) : w.frozen? ⟨p, i, none⟩ = false := by simp [World.frozen?, h.blk]
theorem ReadAt.lt (h : ReadAt w0 w p av f s pv bv) : p < w.heap.size := lt_of_block h.blk
theorem ReadAt.later (h : ReadAt w0 w p av f s pv bv) (hb : Below w.heap.size w w') : ReadAt w0 w' p av f s pv bv := ⟨h.bel.trans (hb.mono h.bel.size), (hb.block p h.lt).trans h.blk, h.lo⟩
theorem ReadAt.drewN (h : ReadAt w0 w p av f s pv bv) (k : Nat) : ReadAt w0 (w.drewN k) p av f s pv bv := h.later (below_drewN (Below.refl _ _) k)

set_option maxRecDepth 100000 in
set_option maxHeartbeats 4000000 in
theorem rdVertex_any (x : Int) (hadj : IsAdj w0 av n es) (h : ReadAt w0 w p av f s pv bv) :
    Calls Tryz.prog 92 #[.pointer (some ⟨p, 0, none⟩), .int .i64 x] w fun e w' => e = .returned (.bool (decide (0 ≤ x ∧ x < (n : Int)))) ∧ w' = w := by
  have c0 := h.c0
  have HN := Nu.hid (aN_any av n es w (hadj.later h.bel))
  clear h hadj
  by_cases h0 : 0 ≤ x
  · have hd : decide (0 ≤ x ∧ x < (n : Int)) = decide (x < (n : Int)) := by simp [h0]
    rw [hd]
    go_enter Tryz.func92, Tryz.ntmps92
    go_wp2_with (go_at_call 38; refine HN.out.mono ?_; rintro e w1 ⟨rfl, rfl⟩)
    go_ret
    exact ⟨rfl, rfl⟩
  · have hd : decide (0 ≤ x ∧ x < (n : Int)) = false := by simp [h0]
    rw [hd]
    go_enter Tryz.func92, Tryz.ntmps92
    go_wp2_with (go_at_call 38; refine HN.out.mono ?_; rintro e w1 ⟨rfl, rfl⟩)
    go_ret
    exact ⟨rfl, rfl⟩

set_option maxRecDepth 100000 in
set_option maxHeartbeats 8000000 in
theorem lengths_any (hadj : IsAdj w0 av n es) (h : ReadAt w0 w p av f s pv bv) :
    Calls Tryz.prog 70 #[.pointer (some ⟨p, 0, none⟩)] w fun e w' => ∃ b, e = .returned (.bool b) ∧ (b = true ↔ Df.Lens n es s) ∧ Below w.heap.size w w' := by
  have hav : ∃ q, av = .pointer q := by
    rcases hadj with ⟨h, _⟩ | ⟨_, p, h, _⟩
    · exact ⟨_, h⟩
    · exact ⟨_, h⟩
  obtain ⟨q, rfl⟩ := hav
  obtain ⟨a1, a2, a3, a4, c1, c2, c3, c4⟩ := f
  have HS : Hid (∀ V, Below w.heap.size w V → V.cell? ⟨p, 0, none⟩ = some (.pointer q) ∧ V.cell? ⟨p, 1, none⟩ = some (.slice a1 s.par.length c1) ∧ V.cell? ⟨p, 2, none⟩ = some (.slice a2 s.hei.length c2) ∧ V.cell? ⟨p, 3, none⟩ = some (.slice a3 s.ord.length c3) ∧ V.cell? ⟨p, 4, none⟩ = some (.slice a4 s.ori.length c4)) := fun V hV => by
    have := h.later hV
    exact ⟨this.c0, this.c1, this.c2, this.c3, this.c4⟩
  have HN : Hid (∀ V, Below w.heap.size w V → Calls Tryz.prog 38 #[.pointer q] V fun e V' => e = .returned (.int .i64 (n : Int)) ∧ V' = V) := fun V hV => aN_any _ n es V (hadj.later (h.later hV).bel)
  have HM : Hid (∀ V, Below w.heap.size w V → Calls Tryz.prog 24 #[.pointer q] V fun e V' => e = .returned (.int .i64 (es.length : Int)) ∧ V' = V) := fun V hV => aM_any _ n es V (hadj.later (h.later hV).bel)
  have hbd : Below w.heap.size w w.drew := (Below.refl _ _).drew
  have hlp := h.lt
  obtain ⟨m, hm⟩ : ∃ m, es.length = m := ⟨_, rfl⟩
  obtain ⟨l1, h1⟩ : ∃ l, s.par.length = l := ⟨_, rfl⟩
  obtain ⟨l2, h2⟩ : ∃ l, s.hei.length = l := ⟨_, rfl⟩
  obtain ⟨l3, h3⟩ : ∃ l, s.ord.length = l := ⟨_, rfl⟩
  obtain ⟨l4, h4⟩ : ∃ l, s.ori.length = l := ⟨_, rfl⟩
  have hL : Df.Lens n es s ↔ (l1 = n ∧ l2 = n ∧ l3 = n ∧ l4 = m) := by unfold Df.Lens; rw [h1, h2, h3, h4, hm]
  rw [hm] at HM
  rw [h1, h2, h3, h4] at HS
  have HL := Nu.hid hL
  clear h hadj hm h1 h2 h3 h4 hL
  go_enter Tryz.func70, Tryz.ntmps70
  go_wp2_with fail
  go_region_held3 (fun V => V.cell? ⟨p, 0, none⟩ = some (.pointer q) ∧ V.cell? ⟨p, 1, none⟩ = some (.slice a1 l1 c1) ∧ V.cell? ⟨p, 2, none⟩ = some (.slice a2 l2 c2) ∧ V.cell? ⟨p, 3, none⟩ = some (.slice a3 l3 c3) ∧ V.cell? ⟨p, 4, none⟩ = some (.slice a4 l4 c4))
    (exact HS.out _ (by repeat (first | assumption | exact Below.refl _ _ | with_reducible refine bel_d ?_ | with_reducible refine bel_a ?_ _)))
    ((first
      | (go_at_call 38; refine (HN.out _ (by repeat (first | assumption | exact Below.refl _ _ | with_reducible refine bel_d ?_ | with_reducible refine bel_a ?_ _))).mono ?_; rintro e V1 ⟨rfl, rfl⟩)
      | (go_at_call 24; refine (HM.out _ (by repeat (first | assumption | exact Below.refl _ _ | with_reducible refine bel_d ?_ | with_reducible refine bel_a ?_ _))).mono ?_; rintro e V1 ⟨rfl, rfl⟩)))
  all_goals
    have hbz : Below w.heap.size w (w.alloc (.cells #[.slice a1 l1 c1, .slice a2 l2 c2, .slice a3 l3 c3, .slice a4 l4 c4] 27)).drew := bel_d (bel_a (Below.refl _ _) _)
    have HBZ := Nu.hid hbz
    clear hbz HS HN HM
    by_cases e1 : l1 = n
    · have t1 : ((l1 : Int) == (n : Int)) = true := by simp only [beq_iff_eq]; omega
      have E1 := Nu.hid e1
      clear e1
      by_cases e2 : l2 = n
      · have t2 : ((l2 : Int) == (n : Int)) = true := by simp only [beq_iff_eq]; omega
        have E2 := Nu.hid e2
        clear e2
        by_cases e3 : l3 = n
        · have t3 : ((l3 : Int) == (n : Int)) = true := by simp only [beq_iff_eq]; omega
          have E3 := Nu.hid e3
          clear e3
          by_cases e4 : l4 = m
          · have t4 : ((l4 : Int) == (m : Int)) = true := by simp only [beq_iff_eq]; omega
            have E4 := Nu.hid e4
            clear e4
            go_wp2
            go_ret
            exact ⟨true, rfl, by rw [HL.out]; exact ⟨fun _ => ⟨E1.out, E2.out, E3.out, E4.out⟩, fun _ => rfl⟩, HBZ.out⟩
          · have t4 : ((l4 : Int) == (m : Int)) = false := by simp only [beq_eq_false_iff_ne, ne_eq]; omega
            have E4 := Nu.hid e4
            clear e4
            go_wp2
            go_ret
            exact ⟨false, rfl, by rw [HL.out]; exact ⟨fun h => (by cases h), fun h => absurd h.2.2.2 E4.out⟩, HBZ.out⟩
        · have t3 : ((l3 : Int) == (n : Int)) = false := by simp only [beq_eq_false_iff_ne, ne_eq]; omega
          have E3 := Nu.hid e3
          clear e3
          go_wp2
          go_ret
          exact ⟨false, rfl, by rw [HL.out]; exact ⟨fun h => (by cases h), fun h => absurd h.2.2.1 E3.out⟩, HBZ.out⟩
      · have t2 : ((l2 : Int) == (n : Int)) = false := by simp only [beq_eq_false_iff_ne, ne_eq]; omega
        have E2 := Nu.hid e2
        clear e2
        go_wp2
        go_ret
        exact ⟨false, rfl, by rw [HL.out]; exact ⟨fun h => (by cases h), fun h => absurd h.2.1 E2.out⟩, HBZ.out⟩
    · have t1 : ((l1 : Int) == (n : Int)) = false := by simp only [beq_eq_false_iff_ne, ne_eq]; omega
      have E1 := Nu.hid e1
      clear e1
      go_wp2
      go_ret
      exact ⟨false, rfl, by rw [HL.out]; exact ⟨fun h => (by cases h), fun h => absurd h.1 E1.out⟩, HBZ.out⟩
end

end Go.Proofs.YtmgoahbloppdmaaGreat

/-
  Parents and heights, held against the graph.
-/
namespace Go.Proofs.YtmgoahbloppdmaaGreat
open Go.RowKit

section
variable {w0 w : World} {p : Nat} {av : Value} {f : For} {s : Df.St} {pv bv : Value} {n : Nat} {es : List (Int × Int)}

set_option maxRecDepth 100000 in
set_option maxHeartbeats 8000000 in
theorem rightParent_any (v : Nat) (hadj : IsAdj w0 av n es) (hF : LstF w0 f s) (hL : Df.Lens n es s) (h : ReadAt w0 w p av f s pv bv) (hv : v < n) :
    Calls Tryz.prog 93 #[.pointer (some ⟨p, 0, none⟩), .int .i64 (v : Int)] w (BoolPost (Df.Hang1 es s v) w) := by
  obtain ⟨l1, l2, l3, l4⟩ := hL
  obtain ⟨hbn, hbm⟩ := hadj.bounds
  have hav : ∃ q, av = .pointer q := by
    rcases hadj with ⟨h, _⟩ | ⟨_, p, h, _⟩
    · exact ⟨_, h⟩
    · exact ⟨_, h⟩
  obtain ⟨q, rfl⟩ := hav
  obtain ⟨a1, a2, a3, a4, k1, k2, k3, k4⟩ := f
  have hFw := hF.later h.bel
  obtain ⟨b1, o1, e1, d1⟩ := lst_at hFw.l1 (i := v) (by omega)
  obtain ⟨b2, o2, e2, d2⟩ := lst_at hFw.l2 (i := v) (by omega)
  dsimp only at e1 e2
  subst e1
  subst e2
  have c0 := h.c0
  have c1 := h.c1
  have c2 := h.c2
  have c4 := h.c4
  dsimp only at c1 c2 c4
  rw [l1] at c1
  rw [l2] at c2
  rw [l4] at c4
  obtain ⟨x, hx⟩ : ∃ x, s.par.getD v (-1) = x := ⟨_, rfl⟩
  obtain ⟨y, hy⟩ : ∃ y, s.hei.getD v (-1) = y := ⟨_, rfl⟩
  have hxa : Df.at_ s.par v = x := hx
  have hya : Df.at_ s.hei v = y := hy
  rw [hx] at d1
  rw [hy] at d2
  have v0 : (0 : Int) ≤ (v : Int) := by omega
  have v1 : (v : Int) < (n : Int) := by omega
  have hTo := to_any (.pointer q) n es x
  by_cases hx1 : x = -1
  · have hH : Df.Hang1 es s v ↔ y = 0 := by
      unfold Df.Hang1
      rw [hxa, hya]
      constructor
      · rintro (⟨_, h⟩ | ⟨h, _, h1, _⟩)
        · exact h
        · omega
      · exact fun h => .inl ⟨hx1, h⟩
    have t1 : (x == -1) = true := by simp [hx1]
    have HH := Nu.hid hH
    by_cases hy0 : y = 0
    · have t2 : (y == 0) = true := by simp [hy0]
      have HY := Nu.hid hy0
      subst hx1
      clear hH hFw hF hadj h hx hy hxa hya hTo hy0 t1
      go_enter Tryz.func93, Tryz.ntmps93
      go_wp2_with fail
      go_quiet (fail)
      go_wp2
      go_ret
      exact ⟨true, rfl, by rw [HH.out]; exact ⟨fun _ => HY.out, fun _ => rfl⟩, below_drewN (Below.refl _ _) _⟩
    · have t2 : (y == 0) = false := by simp [hy0]
      have HY := Nu.hid hy0
      subst hx1
      clear hH hFw hF hadj h hx hy hxa hya hTo hy0 t1
      go_enter Tryz.func93, Tryz.ntmps93
      go_wp2_with fail
      go_quiet (fail)
      go_wp2
      go_ret
      exact ⟨false, rfl, by rw [HH.out]; exact ⟨fun h => (by cases h), fun h => absurd h HY.out⟩, below_drewN (Below.refl _ _) _⟩
  · have t1 : (x == -1) = false := by simp [hx1]
    by_cases hhalf : (0 ≤ x ∧ x < 2 * (es.length : Int)) ∧ Cs.toI es x = (v : Int)
    · obtain ⟨⟨hx0, hx2⟩, hto⟩ := hhalf
      obtain ⟨e, rfl⟩ : ∃ e : Nat, x = (e : Int) := ⟨x.toNat, by omega⟩
      have hel : e < 2 * es.length := by omega
      have hval := hadj.val hel
      have hfl := (Cs.half_lt hval hel).1
      rw [Cs.toI_in hel] at hto
      obtain ⟨jh, hjh⟩ : ∃ jh, e / 2 = jh := ⟨_, rfl⟩
      have htd : (e : Int).tdiv 2 = (jh : Int) := by rw [Int.tdiv_eq_ediv_of_nonneg (by omega)]; omega
      have htd2 : (e : Int) / 2 = (jh : Int) := by omega
      have j0 : (0 : Int) ≤ (jh : Int) := by omega
      have j1 : (jh : Int) < (es.length : Int) := by omega
      obtain ⟨b4, o4, e4, d4⟩ := lst_at hFw.l4 (i := jh) (by omega)
      obtain ⟨b5, o5, e5, d5⟩ := lst_at hFw.l2 (i := Cs.fr es e) (by omega)
      dsimp only at e4 e5
      subst e4
      injection e5 with e5
      injection e5 with e6 e7
      subst e6
      subst e7
      obtain ⟨z, hz⟩ : ∃ z, s.hei.getD (Cs.fr es e) (-1) = z := ⟨_, rfl⟩
      obtain ⟨o, hoo⟩ : ∃ o, s.ori.getD jh (-1) = o := ⟨_, rfl⟩
      rw [hz] at d5
      rw [hoo] at d4
      have HTO : Hid (∀ V, Below w.heap.size w V → Calls Tryz.prog 46 #[.pointer q, .int .i64 (e : Int)] V fun r V' => r = .returned (.int .i64 (v : Int)) ∧ V' = V) := by
        intro V hV
        have := to_any (.pointer q) n es e V (hadj.later (h.later hV).bel)
        rw [Cs.toI_in hel, hto] at this
        exact this
      have HFR : Hid (∀ V, Below w.heap.size w V → Calls Tryz.prog 41 #[.pointer q, .int .i64 (e : Int)] V fun r V' => r = .returned (.int .i64 (Cs.fr es e : Int)) ∧ V' = V) := by
        intro V hV
        have := from_any (.pointer q) n es e V (hadj.later (h.later hV).bel)
        rw [Cs.frI_in hel] at this
        exact this
      have hH : Df.Hang1 es s v ↔ (o = (e : Int) ∧ y = IntKind.i64.wrap (z + 1)) := by
        unfold Df.Hang1
        rw [hxa, hya]
        constructor
        · rintro (⟨h, _⟩ | ⟨h', h1, h2, h3, h4, h5⟩)
          · omega
          · obtain rfl : h' = e := by omega
            refine ⟨?_, ?_⟩
            · rw [← hoo, ← hjh]; exact h4
            · rw [← hz]; exact h5
        · rintro ⟨h1, h2⟩
          refine .inr ⟨e, hel, rfl, by omega, ?_, ?_⟩
          · show s.ori.getD (e / 2) (-1) = _
            rw [hjh, hoo]; exact h1
          · rw [h2, ← hz]
      have HH := Nu.hid hH
      obtain ⟨fe, hfe⟩ : ∃ fe, Cs.fr es e = fe := ⟨_, rfl⟩
      rw [hfe] at hfl d5 HFR
      have f0 : (0 : Int) ≤ (fe : Int) := by omega
      have f1 : (fe : Int) < (n : Int) := by omega
      have tv : ((v : Int) != (v : Int)) = false := by simp
      have HCS : Hid (∀ W k, W = w.drewN k → W.cell? ⟨p, 0, none⟩ = some (.pointer q) ∧ W.cell? ⟨p, 2, none⟩ = some (.slice (some ⟨b2, o2, none⟩) n k2) ∧ W.cell? ⟨p, 4, none⟩ = some (.slice (some ⟨b4, o4, none⟩) es.length k4) ∧ W.cell? ⟨b4, o4 + jh, none⟩ = some (.int .i64 o) ∧ W.cell? ⟨b2, o2 + fe, none⟩ = some (.int .i64 z)) := fun W k hW => by subst hW; exact ⟨c0, c2, c4, d4, d5⟩
      have hjw : IntKind.i64.wrap (jh : Int) = (jh : Int) := by rw [IntKind.wrap_i64]; omega
      by_cases ho : o = (e : Int)
      · have t3 : (o == (e : Int)) = true := by simp [ho]
        have HO := Nu.hid ho
        clear hH hFw hF hadj h hx hy hxa hya hTo hz hoo hfe hto hval ho hx1
        go_enter Tryz.func93, Tryz.ntmps93
        go_wp2_with fail
        go_quiet (fail)
        obtain ⟨W, hW⟩ : ∃ W, W = w.drewN nq := ⟨_, rfl⟩
        rw [← hW]
        obtain ⟨z0, z2, z4, y4, y5⟩ := HCS.out W nq hW
        have hbW : Below w.heap.size w W := by rw [hW]; exact below_drewN (Below.refl _ _) _
        have HBW := Nu.hid hbW
        have HTOW := Nu.hid (HTO.out W hbW)
        clear hW hbW c0 c1 c2 c4 d1 d2 d4 d5
        go_wp2_with (go_at_call 46; refine HTOW.out.mono ?_; rintro r V ⟨rfl, hV⟩; obtain rfl := hV.symm)
        go_quiet ((go_at_call 41; exact Calls.quiet_of_same (HFR.out _ (below_drewN HBW.out _))))
        go_wp2
        go_ret
        refine ⟨_, rfl, ?_, below_drewN HBW.out _⟩
        have ew : wrap64 (z + 1) = IntKind.i64.wrap (z + 1) := by rw [IntKind.wrap_i64]; unfold wrap64; rfl
        rw [HH.out, beq_iff_eq, ew]
        exact ⟨fun h => ⟨HO.out, h⟩, fun h => h.2⟩
      · have t3 : (o == (e : Int)) = false := by simp [ho]
        have HO := Nu.hid ho
        clear hH hFw hF hadj h hx hy hxa hya hTo hz hoo hfe hto hval ho hx1
        go_enter Tryz.func93, Tryz.ntmps93
        go_wp2_with fail
        go_quiet (fail)
        obtain ⟨W, hW⟩ : ∃ W, W = w.drewN nq := ⟨_, rfl⟩
        rw [← hW]
        obtain ⟨z0, z2, z4, y4, y5⟩ := HCS.out W nq hW
        have hbW : Below w.heap.size w W := by rw [hW]; exact below_drewN (Below.refl _ _) _
        have HBW := Nu.hid hbW
        have HTOW := Nu.hid (HTO.out W hbW)
        clear hW hbW c0 c1 c2 c4 d1 d2 d4 d5
        go_wp2_with (go_at_call 46; refine HTOW.out.mono ?_; rintro r V ⟨rfl, hV⟩; obtain rfl := hV.symm)
        go_quiet ((go_at_call 41; exact Calls.quiet_of_same (HFR.out _ (below_drewN HBW.out _))))
        go_wp2
        go_ret
        exact ⟨false, rfl, by rw [HH.out]; exact ⟨fun h => (by cases h), fun h => absurd h.1 HO.out⟩, below_drewN HBW.out _⟩
    · have hne : Cs.toI es x ≠ (v : Int) := fun e => hhalf ⟨by
        by_cases hx3 : 0 ≤ x ∧ x < 2 * (es.length : Int)
        · exact hx3
        · rw [Cs.toI_no hx3] at e; omega, e⟩
      have hH : ¬ Df.Hang1 es s v := by
        unfold Df.Hang1
        rw [hxa, hya]
        rintro (⟨h, _⟩ | ⟨h', h1, h2, h3, _⟩)
        · exact hx1 h
        · apply hne
          rw [h2, Cs.toI_in h1, h3]
      obtain ⟨g, hg⟩ : ∃ g, Cs.toI es x = g := ⟨_, rfl⟩
      have HTO : Hid (∀ V, Below w.heap.size w V → Calls Tryz.prog 46 #[.pointer q, .int .i64 x] V fun r V' => r = .returned (.int .i64 g) ∧ V' = V) := by
        intro V hV
        have := to_any (.pointer q) n es x V (hadj.later (h.later hV).bel)
        rw [hg] at this
        exact this
      rw [hg] at hne
      have t3 : (g != (v : Int)) = true := by simpa using hne
      have HH := Nu.hid hH
      clear hH hFw hF hadj h hx hy hxa hya hTo hhalf hne hg hx1
      go_enter Tryz.func93, Tryz.ntmps93
      go_wp2_with fail
      go_quiet (fail)
      go_wp2_with (go_at_call 46; refine (HTO.out _ (below_drewN (Below.refl _ _) _)).mono ?_; rintro r V ⟨rfl, hV⟩; obtain rfl := hV.symm)
      go_ret
      exact ⟨false, rfl, ⟨fun h => (by cases h), fun h => absurd h HH.out⟩, below_drewN (Below.refl _ _) _⟩

set_option maxRecDepth 100000 in
set_option maxHeartbeats 8000000 in
theorem rightParents_any (hadj : IsAdj w0 av n es) (hF : LstF w0 f s) (hL : Df.Lens n es s) (h : ReadAt w0 w p av f s pv bv) :
    Calls Tryz.prog 72 #[.pointer (some ⟨p, 0, none⟩)] w (BoolPost (Df.Hang n es s) w) := by
  obtain ⟨hbn, hbm⟩ := hadj.bounds
  have c0 := h.c0
  have HN := Nu.hid (aN_any av n es w (hadj.later h.bel))
  have HRP : Hid (∀ V (v : Nat), Below w.heap.size w V → v < n → Calls Tryz.prog 93 #[.pointer (some ⟨p, 0, none⟩), .int .i64 (v : Int)] V (BoolPost (Df.Hang1 es s v) V)) := fun V v hV hv => rightParent_any v hadj hF hL (h.later hV) hv
  clear hadj hF hL h
  go_enter Tryz.func72, Tryz.ntmps72
  go_wp2_with (go_at_call 38; refine HN.out.mono ?_; rintro e w1 ⟨rfl, hw1⟩; obtain rfl := hw1.symm)
  clear c0
  go_loopw [9] (fun c wr => ∃ k : Nat, k ≤ n ∧ c = .int .i64 k ∧ (∀ v, v < k → Df.Hang1 es s v) ∧ Below w.heap.size w wr) (fun c _ => n - (intOf c).toNat)
  case atStart => exact ⟨0, Nat.zero_le _, rfl, fun v hv => (by omega), Below.refl _ _⟩
  case round =>
    obtain ⟨k, hk, rfl, hall, hb⟩ := hrel
    have HALL := Nu.hid hall
    have HB := Nu.hid hb
    by_cases hlt : k < n
    · have hlti : (k : Int) < (n : Int) := by omega
      have hcall := HRP.out wr k hb hlt
      by_cases hh : Df.Hang1 es s k
      · have HC : Hid (Calls Tryz.prog 93 #[.pointer (some ⟨p, 0, none⟩), .int .i64 (k : Int)] wr fun e V' => e = .returned (.bool true) ∧ Below wr.heap.size wr V') := hcall.mono (by
          rintro e V' ⟨b, rfl, h1, h2⟩
          exact ⟨by rw [h1.2 hh], h2⟩)
        have HH := Nu.hid hh
        clear hcall hh hall hb
        go_wp2_with (go_at_call 93; refine HC.out.mono ?_; rintro e w2 ⟨rfl, hb2⟩; have HB2 := Nu.hid hb2; clear hb2)
        go_roundw
        case rel =>
          refine ⟨k + 1, by omega, by go_num, fun v hv => ?_, HB.out.trans (HB2.out.mono HB.out.size)⟩
          by_cases e : v = k
          · rw [e]; exact HH.out
          · exact HALL.out v (by omega)
        case measure => simp [intOf]; omega
      · have HC : Hid (Calls Tryz.prog 93 #[.pointer (some ⟨p, 0, none⟩), .int .i64 (k : Int)] wr fun e V' => e = .returned (.bool false) ∧ Below wr.heap.size wr V') := hcall.mono (by
          rintro e V' ⟨b, rfl, h1, h2⟩
          cases b with
          | true => exact absurd (h1.1 rfl) hh
          | false => exact ⟨rfl, h2⟩)
        have HH := Nu.hid hh
        have HLT := Nu.hid hlt
        clear hcall hh hall hb
        go_wp2_with (go_at_call 93; refine HC.out.mono ?_; rintro e w2 ⟨rfl, hb2⟩; have HB2 := Nu.hid hb2; clear hb2)
        go_ret
        exact ⟨false, rfl, ⟨fun h => (by cases h), fun h => absurd (h k HLT.out) HH.out⟩, HB.out.trans (HB2.out.mono HB.out.size)⟩
    · have hd : ¬ ((k : Int) < (n : Int)) := by omega
      have HK : Hid (k = n) := show k = n by omega
      clear hall hb
      go_wp2
      go_ret
      exact ⟨true, rfl, ⟨fun _ v hv => HALL.out v (by rw [HK.out]; exact hv), fun _ => rfl⟩, HB.out⟩
end

end Go.Proofs.YtmgoahbloppdmaaGreat

/-
  Each vertex once: the places.
-/
namespace Go.Proofs.YtmgoahbloppdmaaGreat
open Go.RowKit

namespace Df
/-- The places of the first k. -/
def PlaceTo (n : Nat) (s : St) (k : Nat) (P : List Int) : Prop := P.length = n ∧ (∀ a, a < k → at_ P (at_ s.ord a).toNat = (a : Int)) ∧ ∀ v : Nat, v < n → (∀ a, a < k → at_ s.ord a ≠ (v : Int)) → at_ P v = -1

theorem PlaceTo.step {n : Nat} {s : St} {k : Nat} {P : List Int} {v : Nat} (h : PlaceTo n s k P) (ho : Once n s k) (hv : at_ s.ord k = (v : Int)) (hvn : v < n) (hno : ∀ a, a < k → at_ s.ord a ≠ (v : Int)) : Once n s (k + 1) ∧ PlaceTo n s (k + 1) (P.set v (k : Int)) := by
  obtain ⟨h1, h2, h3⟩ := h
  have hset : ∀ u : Nat, at_ (P.set v (k : Int)) u = if u = v then (k : Int) else at_ P u := fun u => by
    unfold at_
    rw [List.getD_eq_getElem?_getD, List.getElem?_set]
    by_cases e : v = u
    · rw [if_pos e, if_pos (by omega), if_pos e.symm]; rfl
    · rw [if_neg e, if_neg (fun e2 => e e2.symm), ← List.getD_eq_getElem?_getD]
  refine ⟨fun i hi => ?_, by simp [h1], fun a ha => ?_, fun u hu hall => ?_⟩
  · by_cases e : i = k
    · subst e
      rw [hv]
      exact ⟨by omega, hno⟩
    · exact ho i (by omega)
  · rw [hset]
    by_cases e : a = k
    · subst e
      rw [hv, Int.toNat_natCast, if_pos rfl]
    · have h4 := hno a (by omega)
      have h5 := (ho a (by omega)).1
      rw [if_neg (by omega)]
      exact h2 a (by omega)
  · rw [hset, if_neg]
    · exact h3 u hu fun a ha => hall a (by omega)
    · intro e
      exact hall k (by omega) (by rw [hv, e])
end Df

/-- What eachOnce does. -/
def OncePost (w0 : World) (p : Nat) (av : Value) (f : For) (s : Df.St) (bv : Value) (n : Nat) (e : Ending) (w' : World) : Prop :=
  (∃ gp P, e = .returned (.bool true) ∧ Df.Once n s n ∧ ReadAt w0 w' p av f s (.slice (some ⟨gp, 0, none⟩) n n) bv ∧ IntsBlk w' gp P ∧ Df.IsPlace n s P ∧ gp ≠ p ∧ w0.heap.size ≤ gp) ∨ (e = .returned (.bool false) ∧ ¬ Df.Once n s n ∧ Below w0.heap.size w0 w')

section
variable {w0 w : World} {p : Nat} {av : Value} {f : For} {s : Df.St} {pv bv : Value} {n : Nat} {es : List (Int × Int)}

/-- A store into the places leaves the rest. -/
theorem ReadAt.set_far {g i : Nat} {x : Value} (h : ReadAt w0 w p av f s pv bv) (hg : g ≠ p) (hlo : w0.heap.size ≤ g) : ReadAt w0 (w.setCell ⟨g, i, none⟩ x) p av f s pv bv :=
  ⟨h.bel.setCell (p := ⟨g, i, none⟩) hlo _, (blk_same (fun e => hg e.symm) _).trans h.blk, h.lo⟩
theorem ReadAt.setP (h : ReadAt w0 w p av f s pv bv) (x : Value) : ReadAt w0 (w.setCell ⟨p, 5, none⟩ x) p av f s x bv := by
  refine ⟨h.bel.setCell (p := ⟨p, 5, none⟩) h.lo _, ?_, h.lo⟩
  rw [heap_setCell_same w p 5 _ _ _ h.blk]
  rfl
theorem ReadAt.setB (h : ReadAt w0 w p av f s pv bv) (x : Value) : ReadAt w0 (w.setCell ⟨p, 6, none⟩ x) p av f s pv x := by
  refine ⟨h.bel.setCell (p := ⟨p, 6, none⟩) h.lo _, ?_, h.lo⟩
  rw [heap_setCell_same w p 6 _ _ _ h.blk]
  rfl

set_option maxRecDepth 100000 in
set_option maxHeartbeats 8000000 in
theorem eachOnce_any (hadj : IsAdj w0 av n es) (hF : LstF w0 f s) (hL : Df.Lens n es s) (h : ReadAt w0 w p av f s pv bv) :
    Calls Tryz.prog 71 #[.pointer (some ⟨p, 0, none⟩)] w (OncePost w0 p av f s bv n) := by
  obtain ⟨hbn, hbm⟩ := hadj.bounds
  obtain ⟨l1, l2, l3, l4⟩ := hL
  obtain ⟨a1, a2, a3, a4, k1, k2, k3, k4⟩ := f
  have c0 := h.c0
  have HN := Nu.hid (aN_any av n es w (hadj.later h.bel))
  have HU := Nu.hid (unset_any n w (by omega))
  have HADJ := Nu.hid hadj
  have HF := Nu.hid hF
  have HR := Nu.hid h
  have hlp := h.lt
  have hlo := h.bel.size
  clear hadj hF h
  go_enter Tryz.func71, Tryz.ntmps71
  go_wp2_with (first | (go_at_call 38; refine HN.out.mono ?_; rintro e w1 ⟨rfl, hw1⟩; obtain rfl := hw1.symm) | (go_at_call 91; refine HU.out.mono ?_; rintro e w1 ⟨g, rfl, hg, hi, hb1⟩; refine Hid.out ?_))
  refine Nu.hid ?_
  have h1 := HR.out.later hb1
  have f5 := h1.free 5
  have c5 := h1.c5
  have hgp : g ≠ p := by omega
  have h2 := h1.setP (.slice (some ⟨g, 0, none⟩) n n)
  have hi2 := hi.set_far (i := 5) (b := p) hgp (.slice (some ⟨g, 0, none⟩) n n)
  obtain ⟨w2, hw2⟩ : ∃ w2, w2 = w1.setCell ⟨p, 5, none⟩ (.slice (some ⟨g, 0, none⟩) n n) := ⟨_, rfl⟩
  have c3 := h2.c3
  rw [← hw2] at h2 hi2
  have H2 := Nu.hid h2
  have HI2 := Nu.hid hi2
  have HW2 := Nu.hid hw2
  dsimp only at c3
  clear hi hb1 h1 h2 hi2 hw2 c0 HR
  go_wp2
  rw [← HW2.out]
  clear c5 f5 c3
  go_loopw [20] (fun c wr => ∃ (k : Nat) (P : List Int), k ≤ n ∧ c = .int .i64 k ∧ Df.Once n s k ∧ Df.PlaceTo n s k P ∧ IntsBlk wr g P ∧ ReadAt w0 wr p av ⟨a1, a2, a3, a4, k1, k2, k3, k4⟩ s (.slice (some ⟨g, 0, none⟩) n n) bv) (fun c _ => n - (intOf c).toNat)
  case atStart =>
    refine ⟨0, _, Nat.zero_le _, rfl, fun i hi => (by omega), ⟨by simp, fun a ha => (by omega), fun v hv _ => ?_⟩, HI2.out, H2.out⟩
    simp [Df.at_, List.getD_eq_getElem?_getD, hv]
  case round =>
    obtain ⟨k, P, hk, rfl, hO, hPl, hiP, hr⟩ := hrel
    have HO := Nu.hid hO
    have HPL := Nu.hid hPl
    have HIP := Nu.hid hiP
    have HRR := Nu.hid hr
    by_cases hlt : k < n
    · have hlti : (k : Int) < (n : Int) := by omega
      have hlti3 : (k : Int) < (s.ord.length : Int) := by omega
      have hk0 : (0 : Int) ≤ (k : Int) := by omega
      obtain ⟨b3, o3, e3, d3⟩ := lst_at (HF.out.later hr.bel).l3 (i := k) (by omega)
      dsimp only at e3
      subst e3
      obtain ⟨x, hx⟩ : ∃ x, s.ord.getD k (-1) = x := ⟨_, rfl⟩
      have hxa : Df.at_ s.ord k = x := hx
      rw [hx] at d3
      have hcall := rdVertex_any x HADJ.out hr
      by_cases hin : 0 ≤ x ∧ x < (n : Int)
      · rw [decide_eq_true hin] at hcall
        obtain ⟨v, rfl⟩ : ∃ v : Nat, x = (v : Int) := ⟨x.toNat, by omega⟩
        have hvn : v < n := by omega
        obtain ⟨v0, v1⟩ := hin
        have hPlen := hPl.1
        have c5 := hr.c5
        have d5 := hiP.cell (getD_of (-1) (by omega : v < P.length))
        have f5 := hiP.free v
        have HC := Nu.hid hcall
        by_cases hdup : ∃ a, a < k ∧ Df.at_ s.ord a = (v : Int)
        · obtain ⟨a, ha, hav⟩ := hdup
          have hpa : P.getD v (-1) = (a : Int) := by
            have := hPl.2.1 a ha
            rw [hav, Int.toNat_natCast] at this
            exact this
          rw [hpa] at d5
          have t1 : ((a : Int) != -1) = true := by simp only [bne_iff_ne, ne_eq]; omega
          have HNO : Hid (¬ Df.Once n s n) := fun h => (h k hlt).2 a ha (by rw [hav, hxa])
          have HBEL := Nu.hid hr.bel
          clear hO hPl hiP hr hx hxa hcall hpa hav
          go_wp2_with (go_at_call 92; refine HC.out.mono ?_; rintro e w3 ⟨rfl, hw3⟩; obtain rfl := hw3.symm)
          go_ret
          exact .inr ⟨rfl, HNO.out, HBEL.out⟩
        · have hno : ∀ a, a < k → Df.at_ s.ord a ≠ (v : Int) := fun a ha e => hdup ⟨a, ha, e⟩
          have hpa : P.getD v (-1) = -1 := hPl.2.2 v hvn hno
          rw [hpa] at d5
          have HST := Nu.hid (hPl.step hO hxa hvn hno)
          have HSET := Nu.hid (hiP.set v (k : Int))
          have HR3 := Nu.hid (hr.set_far (i := v) (x := .int .i64 (k : Int)) hgp (by omega : w0.heap.size ≤ g))
          clear hO hPl hiP hr hx hxa hcall hpa hno hdup
          go_wp2_with (go_at_call 92; refine HC.out.mono ?_; rintro e w3 ⟨rfl, hw3⟩; obtain rfl := hw3.symm)
          go_roundw
          case rel => exact ⟨k + 1, _, by omega, by go_num, HST.out.1, HST.out.2, HSET.out, HR3.out⟩
          case measure => simp [intOf]; omega
      · rw [decide_eq_false hin] at hcall
        have HC := Nu.hid hcall
        have HNO : Hid (¬ Df.Once n s n) := fun h => hin (by have := (h k hlt).1; rw [hxa] at this; exact this)
        have HBEL := Nu.hid hr.bel
        clear hO hPl hiP hr hx hxa hcall hin
        go_wp2_with (go_at_call 92; refine HC.out.mono ?_; rintro e w3 ⟨rfl, hw3⟩; obtain rfl := hw3.symm)
        go_ret
        exact .inr ⟨rfl, HNO.out, HBEL.out⟩
    · have hd : ¬ ((k : Int) < (s.ord.length : Int)) := by omega
      obtain rfl : k = n := by omega
      have HGP := Nu.hid hgp
      have HLG : Hid (w0.heap.size ≤ g) := show w0.heap.size ≤ g by omega
      clear hO hPl hiP hr
      go_wp2
      go_ret
      exact .inl ⟨g, P, rfl, HO.out, HRR.out, HIP.out, ⟨HPL.out.1, HPL.out.2.1⟩, HGP.out, HLG.out⟩
end

end Go.Proofs.YtmgoahbloppdmaaGreat
