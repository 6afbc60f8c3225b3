/-
  The edges held against the forest: rightEdges.
-/
import Derived.Test.YtponmjipbcmlhaaDfEdge
namespace Go.Proofs.Ytponmjipbcmlhaa
open Go.RowKit

section
variable {w0 w : World} {p gp gb : Nat} {av : Value} {f : For} {s : Df.St} {n : Nat} {es : List (Int × Int)} {P E : List Int}

set_option maxRecDepth 100000 in
set_option maxHeartbeats 16000000 in
theorem rightEdges_any (hadj : IsAdj w0 av n es) (hF : LstF w0 f s) (hL : Df.Lens n es s) (h : Full w0 w p gp gb av f s n P E)
    (hab : ∀ u v, u < n → v < n → ((Df.at_ P u ≤ Df.at_ P v ∧ Df.at_ P v < Df.at_ E u) ↔ Df.Anc es s u v)) :
    Calls Try.prog 47 #[.pointer (some ⟨p, 0, none⟩)] w (BoolPost (∀ e, e < es.length → Df.Edge1 es s e) w) := by
  obtain ⟨hbn, hbm⟩ := hadj.bounds
  obtain ⟨l1, l2, l3, l4⟩ := hL
  obtain ⟨a1, a2, a3, a4, k1, k2, k3, k4⟩ := f
  have hav : ∃ q, av = .pointer q := by
    rcases hadj with ⟨h, _⟩ | ⟨_, p, h, _⟩
    · exact ⟨_, h⟩
    · exact ⟨_, h⟩
  obtain ⟨qa, rfl⟩ := hav
  have c4 := h.rd.c4
  dsimp only at c4
  rw [l4] at c4
  obtain ⟨m, hm⟩ : ∃ m, es.length = m := ⟨_, rfl⟩
  rw [hm] at c4 hbm l4
  have HH := Nu.hid h
  have HADJ := Nu.hid hadj
  have HF := Nu.hid hF
  have HAB := Nu.hid hab
  have HM := Nu.hid hm
  rw [hm]
  clear hadj hF h hab hm
  go_enter Try.func47, Try.ntmps47
  go_wp2_with fail
  go_loopw [13] (fun c wr => ∃ k : Nat, k ≤ m ∧ c = .int .i64 k ∧ (∀ e, e < k → Df.Edge1 es s e) ∧ Below w.heap.size w wr) (fun c _ => m - (intOf c).toNat)
  case atStart => exact ⟨0, Nat.zero_le _, rfl, fun e he => absurd he (Nat.not_lt_zero _), Below.refl _ _⟩
  case round =>
    obtain ⟨k, hk, rfl, hdone, hbw⟩ := hrel
    have hf := HH.out.later hbw
    have HDN := Nu.hid hdone
    have HBW := Nu.hid hbw
    by_cases hlt : k < m
    · have hlti : (k : Int) < (m : Int) := by omega
      have hk0 : (0 : Int) ≤ (k : Int) := by omega
      obtain ⟨b4, o4, e4, d4⟩ := lst_at (HF.out.later hf.rd.bel).l4 (i := k) (by omega)
      dsimp only at e4
      subst e4
      obtain ⟨x, hx⟩ : ∃ x, s.ori.getD k (-1) = x := ⟨_, rfl⟩
      rw [hx] at d4
      have HX : Hid (Df.at_ s.ori k = x) := hx
      have hmw : IntKind.i64.wrap (2 * (k : Int)) = 2 * (k : Int) := by rw [IntKind.wrap_i64]; omega
      have hmw1 : IntKind.i64.wrap (2 * (k : Int) + 1) = 2 * (k : Int) + 1 := by rw [IntKind.wrap_i64]; omega
      by_cases hgood : x = 2 * (k : Int) ∨ x = 2 * (k : Int) + 1
      · obtain ⟨j, rfl⟩ : ∃ j : Nat, x = (j : Int) := ⟨x.toNat, by omega⟩
        have hj : j = 2 * k ∨ j = 2 * k + 1 := by omega
        have hjl : j < 2 * es.length := by rw [HM.out]; omega
        have hval := HADJ.out.val hjl
        obtain ⟨hfl, htl⟩ := Cs.half_lt hval hjl
        have HFR : Hid (∀ V, Below wr.heap.size wr V → Calls Try.prog 63 #[.pointer qa, .int .i64 (j : Int)] V fun r V' => r = .returned (.int .i64 (Cs.fr es j : Int)) ∧ V' = V) := by
          intro V hV
          have := from_any (.pointer qa) n es j V (HADJ.out.later (hf.later hV).rd.bel)
          rw [Cs.frI_in hjl] at this
          exact this
        have HTO : Hid (∀ V, Below wr.heap.size wr V → Calls Try.prog 65 #[.pointer qa, .int .i64 (j : Int)] V fun r V' => r = .returned (.int .i64 (Cs.to es j : Int)) ∧ V' = V) := by
          intro V hV
          have := to_any (.pointer qa) n es j V (HADJ.out.later (hf.later hV).rd.bel)
          rw [Cs.toI_in hjl] at this
          exact this
        obtain ⟨a, ha⟩ : ∃ a, Cs.fr es j = a := ⟨_, rfl⟩
        obtain ⟨b, hb⟩ : ∃ b, Cs.to es j = b := ⟨_, rfl⟩
        rw [ha] at hfl HFR
        rw [hb] at htl HTO
        have hHB := HAB.out b a htl hfl
        obtain ⟨b1, o1, e1, d1⟩ := lst_at (HF.out.later hf.rd.bel).l1 (i := b) (by omega)
        dsimp only at e1
        subst e1
        obtain ⟨y, hy⟩ : ∃ y, s.par.getD b (-1) = y := ⟨_, rfl⟩
        rw [hy] at d1
        have HE : Hid (Df.Edge1 es s k ↔ (y = (j : Int) ∨ Df.Anc es s b a)) := by
          constructor
          · rintro ⟨h, h1, h2, h3⟩
            obtain rfl : h = j := by rw [HX.out] at h2; omega
            rw [ha, hb] at h3
            have : Df.at_ s.par b = y := hy
            rw [this] at h3
            exact h3
          · intro h3
            refine ⟨j, hj, HX.out, ?_⟩
            rw [ha, hb]
            have : Df.at_ s.par b = y := hy
            rw [this]
            exact h3
        have hc1 := hf.rd.c1
        have hc0 := hf.rd.c0
        dsimp only at hc1
        rw [l1] at hc1
        have HCS : Hid (∀ W k, W = wr.drewN k → W.cell? ⟨p, 1, none⟩ = some (.slice (some ⟨b1, o1, none⟩) n k1) ∧ W.cell? ⟨b1, o1 + b, none⟩ = some (.int .i64 y) ∧ Below wr.heap.size wr W) := fun W k hW => by subst hW; exact ⟨hc1, d1, below_drewN (Below.refl _ _) _⟩
        have HAV : Hid (∀ V, Below wr.heap.size wr V → Calls Try.prog 31 #[.pointer (some ⟨p, 0, none⟩), .int .i64 (b : Int), .int .i64 (a : Int)] V (BoolPost (Df.Anc es s b a) V)) := fun V hV => by
          have := rabove_any b a (hf.later hV) htl hfl
          rw [hHB] at this
          exact this
        have hb0 : (0 : Int) ≤ (b : Int) := by omega
        have hb1 : (b : Int) < (n : Int) := by omega
        have HYJ : Hid (y = (j : Int) ∨ y ≠ (j : Int)) := Classical.em _
        have HGO : Hid (Df.Edge1 es s k → ∀ e, e < k + 1 → Df.Edge1 es s e) := fun h e he => by
          by_cases hek : e < k
          · exact HDN.out e hek
          · obtain rfl : e = k := by omega
            exact h
        have tg : ((j : Int) != 2 * (k : Int)) = false ∨ (((j : Int) != 2 * (k : Int)) = true ∧ ((j : Int) != 2 * (k : Int) + 1) = false) := by
          rcases hj with hj | hj
          · left; simp; omega
          · right; constructor
            · simp; omega
            · simp; omega
        clear hf hval hjl ha hb hx hy hHB hfl htl hc1 d1 hgood hj hdone hbw
        rcases tg with tg | ⟨tg, tg1⟩
        all_goals
          go_wp2_with fail
          go_quiet ((first
            | (go_at_call 63; exact Calls.quiet_of_same (HFR.out _ (below_drewN (Below.refl _ _) _)))
            | (go_at_call 65; exact Calls.quiet_of_same (HTO.out _ (below_drewN (Below.refl _ _) _)))))
          obtain ⟨W, hW⟩ : ∃ W, W = wr.drewN nq := ⟨_, rfl⟩
          rw [← hW]
          obtain ⟨z1, z2, hbW⟩ := HCS.out W nq hW
          have HBX := Nu.hid hbW
          clear hW hbW
          rcases HYJ.out with hyj | hyj
          · have t1 : (y != (j : Int)) = false := by simp [hyj]
            have HY := Nu.hid hyj
            clear hyj
            go_wp2
            go_roundw
            case rel => exact ⟨k + 1, by omega, by go_num, HGO.out (HE.out.2 (.inl HY.out)), HBW.out.trans (HBX.out.mono HBW.out.size)⟩
            case measure => simp [intOf]; omega
          · have t1 : (y != (j : Int)) = true := by simp [hyj]
            have HY := Nu.hid hyj
            clear hyj
            go_wp2_with (go_at_call 31; refine (HAV.out _ HBX.out).mono ?_; rintro e w6 ⟨bb, rfl, hbb, hb6⟩; have HB6 := Nu.hid hb6; have HBB := Nu.hid hbb; clear hb6 hbb; cases bb)
            · go_ret
              exact ⟨false, rfl, ⟨fun h => (by cases h), fun h => (by
                rcases HE.out.1 (h k hlt) with h1 | h1
                · exact absurd h1 HY.out
                · exact HBB.out.2 h1)⟩, (HBW.out.trans (HBX.out.mono HBW.out.size)).trans (HB6.out.mono (Nat.le_trans HBW.out.size HBX.out.size))⟩
            · go_roundw
              case rel => exact ⟨k + 1, by omega, by go_num, HGO.out (HE.out.2 (.inr (HBB.out.1 (by trivial)))), (HBW.out.trans (HBX.out.mono HBW.out.size)).trans (HB6.out.mono (Nat.le_trans HBW.out.size HBX.out.size))⟩
              case measure => simp [intOf]; omega
      · have t1 : (x != 2 * (k : Int)) = true := by simp; omega
        have t2 : (x != 2 * (k : Int) + 1) = true := by simp; omega
        have HG : Hid (¬ Df.Edge1 es s k) := by
          rintro ⟨h, h1, h2, _⟩
          rw [HX.out] at h2
          exact hgood (by omega)
        clear hgood hf hx hdone hbw
        go_wp2
        go_ret
        exact ⟨false, rfl, ⟨fun h => (by cases h), fun h => absurd (h k hlt) HG.out⟩, HBW.out⟩
    · have hd : ¬ ((k : Int) < (m : Int)) := by omega
      obtain rfl : k = m := by omega
      clear hf hdone hbw
      go_wp2
      go_ret
      exact ⟨true, rfl, ⟨fun _ => HDN.out, fun _ => rfl⟩, HBW.out⟩
end
