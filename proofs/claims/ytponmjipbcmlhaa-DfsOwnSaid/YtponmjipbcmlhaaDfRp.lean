/-
  Parents and heights, held against the graph.
-/
import Derived.Test.YtponmjipbcmlhaaDfRd
namespace Go.Proofs.Ytponmjipbcmlhaa
open Go.RowKit

/-- An answer of yes or no. -/
def BoolPost (P : Prop) (w : World) (e : Ending) (w' : World) : Prop := ∃ b, e = .returned (.bool b) ∧ (b = true ↔ P) ∧ Below w.heap.size w w'

section
variable {w0 w : World} {p : Nat} {av : Value} {f : For} {s : Df.St} {pv bv : Value} {n : Nat} {es : List (Int × Int)}

set_option maxRecDepth 100000 in
set_option maxHeartbeats 8000000 in
theorem rightParent_any (v : Nat) (hadj : IsAdj w0 av n es) (hF : LstF w0 f s) (hL : Df.Lens n es s) (h : ReadAt w0 w p av f s pv bv) (hv : v < n) :
    Calls Try.prog 62 #[.pointer (some ⟨p, 0, none⟩), .int .i64 (v : Int)] w (BoolPost (Df.Hang1 es s v) w) := by
  obtain ⟨l1, l2, l3, l4⟩ := hL
  obtain ⟨hbn, hbm⟩ := hadj.bounds
  have hav : ∃ q, av = .pointer q := by
    rcases hadj with ⟨h, _⟩ | ⟨_, p, h, _⟩
    · exact ⟨_, h⟩
    · exact ⟨_, h⟩
  obtain ⟨q, rfl⟩ := hav
  obtain ⟨a1, a2, a3, a4, k1, k2, k3, k4⟩ := f
  have hFw := hF.later h.bel
  obtain ⟨b1, o1, e1, d1⟩ := lst_at hFw.l1 (i := v) (by omega)
  obtain ⟨b2, o2, e2, d2⟩ := lst_at hFw.l2 (i := v) (by omega)
  dsimp only at e1 e2
  subst e1
  subst e2
  have c0 := h.c0
  have c1 := h.c1
  have c2 := h.c2
  have c4 := h.c4
  dsimp only at c1 c2 c4
  rw [l1] at c1
  rw [l2] at c2
  rw [l4] at c4
  obtain ⟨x, hx⟩ : ∃ x, s.par.getD v (-1) = x := ⟨_, rfl⟩
  obtain ⟨y, hy⟩ : ∃ y, s.hei.getD v (-1) = y := ⟨_, rfl⟩
  have hxa : Df.at_ s.par v = x := hx
  have hya : Df.at_ s.hei v = y := hy
  rw [hx] at d1
  rw [hy] at d2
  have v0 : (0 : Int) ≤ (v : Int) := by omega
  have v1 : (v : Int) < (n : Int) := by omega
  have hTo := to_any (.pointer q) n es x
  by_cases hx1 : x = -1
  · have hH : Df.Hang1 es s v ↔ y = 0 := by
      unfold Df.Hang1
      rw [hxa, hya]
      constructor
      · rintro (⟨_, h⟩ | ⟨h, _, h1, _⟩)
        · exact h
        · omega
      · exact fun h => .inl ⟨hx1, h⟩
    have t1 : (x == -1) = true := by simp [hx1]
    have HH := Nu.hid hH
    by_cases hy0 : y = 0
    · have t2 : (y == 0) = true := by simp [hy0]
      have HY := Nu.hid hy0
      subst hx1
      clear hH hFw hF hadj h hx hy hxa hya hTo hy0 t1
      go_enter Try.func62, Try.ntmps62
      go_wp2_with fail
      go_quiet (fail)
      go_wp2
      go_ret
      exact ⟨true, rfl, by rw [HH.out]; exact ⟨fun _ => HY.out, fun _ => rfl⟩, below_drewN (Below.refl _ _) _⟩
    · have t2 : (y == 0) = false := by simp [hy0]
      have HY := Nu.hid hy0
      subst hx1
      clear hH hFw hF hadj h hx hy hxa hya hTo hy0 t1
      go_enter Try.func62, Try.ntmps62
      go_wp2_with fail
      go_quiet (fail)
      go_wp2
      go_ret
      exact ⟨false, rfl, by rw [HH.out]; exact ⟨fun h => (by cases h), fun h => absurd h HY.out⟩, below_drewN (Below.refl _ _) _⟩
  · have t1 : (x == -1) = false := by simp [hx1]
    by_cases hhalf : (0 ≤ x ∧ x < 2 * (es.length : Int)) ∧ Cs.toI es x = (v : Int)
    · obtain ⟨⟨hx0, hx2⟩, hto⟩ := hhalf
      obtain ⟨e, rfl⟩ : ∃ e : Nat, x = (e : Int) := ⟨x.toNat, by omega⟩
      have hel : e < 2 * es.length := by omega
      have hval := hadj.val hel
      have hfl := (Cs.half_lt hval hel).1
      rw [Cs.toI_in hel] at hto
      obtain ⟨jh, hjh⟩ : ∃ jh, e / 2 = jh := ⟨_, rfl⟩
      have htd : (e : Int).tdiv 2 = (jh : Int) := by rw [Int.tdiv_eq_ediv_of_nonneg (by omega)]; omega
      have htd2 : (e : Int) / 2 = (jh : Int) := by omega
      have j0 : (0 : Int) ≤ (jh : Int) := by omega
      have j1 : (jh : Int) < (es.length : Int) := by omega
      obtain ⟨b4, o4, e4, d4⟩ := lst_at hFw.l4 (i := jh) (by omega)
      obtain ⟨b5, o5, e5, d5⟩ := lst_at hFw.l2 (i := Cs.fr es e) (by omega)
      dsimp only at e4 e5
      subst e4
      injection e5 with e5
      injection e5 with e6 e7
      subst e6
      subst e7
      obtain ⟨z, hz⟩ : ∃ z, s.hei.getD (Cs.fr es e) (-1) = z := ⟨_, rfl⟩
      obtain ⟨o, hoo⟩ : ∃ o, s.ori.getD jh (-1) = o := ⟨_, rfl⟩
      rw [hz] at d5
      rw [hoo] at d4
      have HTO : Hid (∀ V, Below w.heap.size w V → Calls Try.prog 65 #[.pointer q, .int .i64 (e : Int)] V fun r V' => r = .returned (.int .i64 (v : Int)) ∧ V' = V) := by
        intro V hV
        have := to_any (.pointer q) n es e V (hadj.later (h.later hV).bel)
        rw [Cs.toI_in hel, hto] at this
        exact this
      have HFR : Hid (∀ V, Below w.heap.size w V → Calls Try.prog 63 #[.pointer q, .int .i64 (e : Int)] V fun r V' => r = .returned (.int .i64 (Cs.fr es e : Int)) ∧ V' = V) := by
        intro V hV
        have := from_any (.pointer q) n es e V (hadj.later (h.later hV).bel)
        rw [Cs.frI_in hel] at this
        exact this
      have hH : Df.Hang1 es s v ↔ (o = (e : Int) ∧ y = IntKind.i64.wrap (z + 1)) := by
        unfold Df.Hang1
        rw [hxa, hya]
        constructor
        · rintro (⟨h, _⟩ | ⟨h', h1, h2, h3, h4, h5⟩)
          · omega
          · obtain rfl : h' = e := by omega
            refine ⟨?_, ?_⟩
            · rw [← hoo, ← hjh]; exact h4
            · rw [← hz]; exact h5
        · rintro ⟨h1, h2⟩
          refine .inr ⟨e, hel, rfl, by omega, ?_, ?_⟩
          · show s.ori.getD (e / 2) (-1) = _
            rw [hjh, hoo]; exact h1
          · rw [h2, ← hz]
      have HH := Nu.hid hH
      obtain ⟨fe, hfe⟩ : ∃ fe, Cs.fr es e = fe := ⟨_, rfl⟩
      rw [hfe] at hfl d5 HFR
      have f0 : (0 : Int) ≤ (fe : Int) := by omega
      have f1 : (fe : Int) < (n : Int) := by omega
      have tv : ((v : Int) != (v : Int)) = false := by simp
      have HCS : Hid (∀ W k, W = w.drewN k → W.cell? ⟨p, 0, none⟩ = some (.pointer q) ∧ W.cell? ⟨p, 2, none⟩ = some (.slice (some ⟨b2, o2, none⟩) n k2) ∧ W.cell? ⟨p, 4, none⟩ = some (.slice (some ⟨b4, o4, none⟩) es.length k4) ∧ W.cell? ⟨b4, o4 + jh, none⟩ = some (.int .i64 o) ∧ W.cell? ⟨b2, o2 + fe, none⟩ = some (.int .i64 z)) := fun W k hW => by subst hW; exact ⟨c0, c2, c4, d4, d5⟩
      have hjw : IntKind.i64.wrap (jh : Int) = (jh : Int) := by rw [IntKind.wrap_i64]; omega
      by_cases ho : o = (e : Int)
      · have t3 : (o == (e : Int)) = true := by simp [ho]
        have HO := Nu.hid ho
        clear hH hFw hF hadj h hx hy hxa hya hTo hz hoo hfe hto hval ho hx1
        go_enter Try.func62, Try.ntmps62
        go_wp2_with fail
        go_quiet (fail)
        obtain ⟨W, hW⟩ : ∃ W, W = w.drewN nq := ⟨_, rfl⟩
        rw [← hW]
        obtain ⟨z0, z2, z4, y4, y5⟩ := HCS.out W nq hW
        have hbW : Below w.heap.size w W := by rw [hW]; exact below_drewN (Below.refl _ _) _
        have HBW := Nu.hid hbW
        have HTOW := Nu.hid (HTO.out W hbW)
        clear hW hbW c0 c1 c2 c4 d1 d2 d4 d5
        go_wp2_with (go_at_call 65; refine HTOW.out.mono ?_; rintro r V ⟨rfl, hV⟩; obtain rfl := hV.symm)
        go_quiet ((go_at_call 63; exact Calls.quiet_of_same (HFR.out _ (below_drewN HBW.out _))))
        go_wp2
        go_ret
        refine ⟨_, rfl, ?_, below_drewN HBW.out _⟩
        have ew : wrap64 (z + 1) = IntKind.i64.wrap (z + 1) := by rw [IntKind.wrap_i64]; unfold wrap64; rfl
        rw [HH.out, beq_iff_eq, ew]
        exact ⟨fun h => ⟨HO.out, h⟩, fun h => h.2⟩
      · have t3 : (o == (e : Int)) = false := by simp [ho]
        have HO := Nu.hid ho
        clear hH hFw hF hadj h hx hy hxa hya hTo hz hoo hfe hto hval ho hx1
        go_enter Try.func62, Try.ntmps62
        go_wp2_with fail
        go_quiet (fail)
        obtain ⟨W, hW⟩ : ∃ W, W = w.drewN nq := ⟨_, rfl⟩
        rw [← hW]
        obtain ⟨z0, z2, z4, y4, y5⟩ := HCS.out W nq hW
        have hbW : Below w.heap.size w W := by rw [hW]; exact below_drewN (Below.refl _ _) _
        have HBW := Nu.hid hbW
        have HTOW := Nu.hid (HTO.out W hbW)
        clear hW hbW c0 c1 c2 c4 d1 d2 d4 d5
        go_wp2_with (go_at_call 65; refine HTOW.out.mono ?_; rintro r V ⟨rfl, hV⟩; obtain rfl := hV.symm)
        go_quiet ((go_at_call 63; exact Calls.quiet_of_same (HFR.out _ (below_drewN HBW.out _))))
        go_wp2
        go_ret
        exact ⟨false, rfl, by rw [HH.out]; exact ⟨fun h => (by cases h), fun h => absurd h.1 HO.out⟩, below_drewN HBW.out _⟩
    · have hne : Cs.toI es x ≠ (v : Int) := fun e => hhalf ⟨by
        by_cases hx3 : 0 ≤ x ∧ x < 2 * (es.length : Int)
        · exact hx3
        · rw [Cs.toI_no hx3] at e; omega, e⟩
      have hH : ¬ Df.Hang1 es s v := by
        unfold Df.Hang1
        rw [hxa, hya]
        rintro (⟨h, _⟩ | ⟨h', h1, h2, h3, _⟩)
        · exact hx1 h
        · apply hne
          rw [h2, Cs.toI_in h1, h3]
      obtain ⟨g, hg⟩ : ∃ g, Cs.toI es x = g := ⟨_, rfl⟩
      have HTO : Hid (∀ V, Below w.heap.size w V → Calls Try.prog 65 #[.pointer q, .int .i64 x] V fun r V' => r = .returned (.int .i64 g) ∧ V' = V) := by
        intro V hV
        have := to_any (.pointer q) n es x V (hadj.later (h.later hV).bel)
        rw [hg] at this
        exact this
      rw [hg] at hne
      have t3 : (g != (v : Int)) = true := by simpa using hne
      have HH := Nu.hid hH
      clear hH hFw hF hadj h hx hy hxa hya hTo hhalf hne hg hx1
      go_enter Try.func62, Try.ntmps62
      go_wp2_with fail
      go_quiet (fail)
      go_wp2_with (go_at_call 65; refine (HTO.out _ (below_drewN (Below.refl _ _) _)).mono ?_; rintro r V ⟨rfl, hV⟩; obtain rfl := hV.symm)
      go_ret
      exact ⟨false, rfl, ⟨fun h => (by cases h), fun h => absurd h HH.out⟩, below_drewN (Below.refl _ _) _⟩

set_option maxRecDepth 100000 in
set_option maxHeartbeats 8000000 in
theorem rightParents_any (hadj : IsAdj w0 av n es) (hF : LstF w0 f s) (hL : Df.Lens n es s) (h : ReadAt w0 w p av f s pv bv) :
    Calls Try.prog 45 #[.pointer (some ⟨p, 0, none⟩)] w (BoolPost (Df.Hang n es s) w) := by
  obtain ⟨hbn, hbm⟩ := hadj.bounds
  have c0 := h.c0
  have HN := Nu.hid (aN_any av n es w (hadj.later h.bel))
  have HRP : Hid (∀ V (v : Nat), Below w.heap.size w V → v < n → Calls Try.prog 62 #[.pointer (some ⟨p, 0, none⟩), .int .i64 (v : Int)] V (BoolPost (Df.Hang1 es s v) V)) := fun V v hV hv => rightParent_any v hadj hF hL (h.later hV) hv
  clear hadj hF hL h
  go_enter Try.func45, Try.ntmps45
  go_wp2_with (go_at_call 39; refine HN.out.mono ?_; rintro e w1 ⟨rfl, hw1⟩; obtain rfl := hw1.symm)
  clear c0
  go_loopw [9] (fun c wr => ∃ k : Nat, k ≤ n ∧ c = .int .i64 k ∧ (∀ v, v < k → Df.Hang1 es s v) ∧ Below w.heap.size w wr) (fun c _ => n - (intOf c).toNat)
  case atStart => exact ⟨0, Nat.zero_le _, rfl, fun v hv => (by omega), Below.refl _ _⟩
  case round =>
    obtain ⟨k, hk, rfl, hall, hb⟩ := hrel
    have HALL := Nu.hid hall
    have HB := Nu.hid hb
    by_cases hlt : k < n
    · have hlti : (k : Int) < (n : Int) := by omega
      have hcall := HRP.out wr k hb hlt
      by_cases hh : Df.Hang1 es s k
      · have HC : Hid (Calls Try.prog 62 #[.pointer (some ⟨p, 0, none⟩), .int .i64 (k : Int)] wr fun e V' => e = .returned (.bool true) ∧ Below wr.heap.size wr V') := hcall.mono (by
          rintro e V' ⟨b, rfl, h1, h2⟩
          exact ⟨by rw [h1.2 hh], h2⟩)
        have HH := Nu.hid hh
        clear hcall hh hall hb
        go_wp2_with (go_at_call 62; refine HC.out.mono ?_; rintro e w2 ⟨rfl, hb2⟩; have HB2 := Nu.hid hb2; clear hb2)
        go_roundw
        case rel =>
          refine ⟨k + 1, by omega, by go_num, fun v hv => ?_, HB.out.trans (HB2.out.mono HB.out.size)⟩
          by_cases e : v = k
          · rw [e]; exact HH.out
          · exact HALL.out v (by omega)
        case measure => simp [intOf]; omega
      · have HC : Hid (Calls Try.prog 62 #[.pointer (some ⟨p, 0, none⟩), .int .i64 (k : Int)] wr fun e V' => e = .returned (.bool false) ∧ Below wr.heap.size wr V') := hcall.mono (by
          rintro e V' ⟨b, rfl, h1, h2⟩
          cases b with
          | true => exact absurd (h1.1 rfl) hh
          | false => exact ⟨rfl, h2⟩)
        have HH := Nu.hid hh
        have HLT := Nu.hid hlt
        clear hcall hh hall hb
        go_wp2_with (go_at_call 62; refine HC.out.mono ?_; rintro e w2 ⟨rfl, hb2⟩; have HB2 := Nu.hid hb2; clear hb2)
        go_ret
        exact ⟨false, rfl, ⟨fun h => (by cases h), fun h => absurd (h k HLT.out) HH.out⟩, HB.out.trans (HB2.out.mono HB.out.size)⟩
    · have hd : ¬ ((k : Int) < (n : Int)) := by omega
      have HK : Hid (k = n) := show k = n by omega
      clear hall hb
      go_wp2
      go_ret
      exact ⟨true, rfl, ⟨fun _ v hv => HALL.out v (by rw [HK.out]; exact hv), fun _ => rfl⟩, HB.out⟩
end

end Go.Proofs.Ytponmjipbcmlhaa
