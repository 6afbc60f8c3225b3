import Derived.Test.YtmgoahbloppdmaaGreatMg32
import Derived.Test.YtmgoahbloppdmaaGreatMg29
/-
  The document's leads.
-/
namespace Go.Proofs.YtmgoahbloppdmaaGreat
open Go.RowKit

section
variable {w : World} {n : Nat} {ao : Option Addr} {ca : Nat} {es : List (Int × Int)} {f : For} {s : Df.St}

/-- No edge leads to where it begins. -/
theorem fr_ne_to (hv : Si.Val n es) {h : Nat} (hh : h < 2 * es.length) : Cs.to es h ≠ Cs.fr es h := by
  obtain ⟨e, hee, hok, hpar⟩ := half_edge hv hh
  unfold Si.ok at hok
  omega

/-- An edge that was walked the one way or the other. -/
def Df.Dir1 (s : Df.St) (e : Nat) : Prop := Df.at_ s.ori e = 2 * (e : Int) ∨ Df.at_ s.ori e = 2 * (e : Int) + 1

set_option maxRecDepth 100000 in
set_option maxHeartbeats 16000000 in
theorem rleads_any (he : EdgesAt w ao es) (hv : Si.Val n es) (hF : LstF w f s) (hL : Df.Lens n es s) (hh : Df.Hang n es s) (hr : Df.Rooted n s) (hon : Df.Once n s n) (hsd : ∃ q, Df.side n es s n = some q) :
    Calls Tryz.prog 31 #[.agg #[.int .i64 (n : Int), .slice ao es.length ca], f.val s] w (BoolPost (∀ e, e < es.length → Df.Edge1 es s e) w) := by
  have HANC : Hid (∀ u v : Nat, v < n → u ≠ v → Df.Anc es s u v → Df.at_ s.hei u < Df.at_ s.hei v) := fun u v hvn hne ha => Df.anc_height hv hon hh hsd hvn hne ha
  have HAB : Hid (∀ (V : World) (u v : Nat), BxAt w V n ao ca es f s → v < n → Calls Tryz.prog 52 #[.agg #[.int .i64 (n : Int), .slice ao es.length ca], .agg #[.slice f.a1 s.par.length f.c1, .slice f.a2 s.hei.length f.c2, .slice f.a3 s.ord.length f.c3, .slice f.a4 s.ori.length f.c4], .int .i64 (u : Int), .int .i64 (v : Int)] V (BoolPost (Df.Anc es s u v) V)) := fun V u v hV hvn => by
    obtain ⟨⟨X, B⟩, hs⟩ := hsd
    obtain ⟨Y, hw, _, _⟩ := Df.way_of (es := es) hon hs hvn
    exact rabv_any u v (he.later hV.bel) hv (hF.later hV.bel) hL hh hr hvn hw
  obtain ⟨l1, l2, l3, l4⟩ := hL
  have hfew := hv.few
  have hnn := hv.hi
  obtain ⟨W, hW⟩ : ∃ W, W = bxw w n ao ca es f s := ⟨_, rfl⟩
  have hbx : BxAt w W n ao ca es f s := by rw [hW]; exact BxAt.new
  have HBX := Nu.hid hbx
  have HF : Hid (∀ V, BxAt w V n ao ca es f s → LstF V f s) := fun V hV => hF.later hV.bel
  have HTO : Hid (∀ V (j : Nat), BxAt w V n ao ca es f s → j < 2 * es.length → Calls Tryz.prog 49 #[.agg #[.int .i64 (n : Int), .slice ao es.length ca], .int .i64 (j : Int)] V fun e w' => e = .returned (.int .i64 (Cs.to es j : Int)) ∧ Below V.heap.size V w') := fun V j hV hj => r4to_any n ao ca es j V (he.later hV.bel) hv hj
  have HFR : Hid (∀ V (j : Nat), BxAt w V n ao ca es f s → j < 2 * es.length → Calls Tryz.prog 50 #[.agg #[.int .i64 (n : Int), .slice ao es.length ca], .int .i64 (j : Int)] V fun e w' => e = .returned (.int .i64 (Cs.fr es j : Int)) ∧ Below V.heap.size V w') := fun V j hV hj => r4from_any n ao ca es j V (he.later hV.bel) hv hj
  have HV := Nu.hid hv
  obtain ⟨a1, a2, a3, a4, c1, c2, c3, c4⟩ := f
  unfold For.val
  unfold bxw at hW
  dsimp only at hW HAB ⊢
  rw [l1, l2, l3, l4] at hW HAB ⊢
  have HW := Nu.hid hW
  clear hF hW hbx he hv hh hr hon hsd
  go_enter Tryz.func31, Tryz.ntmps31
  go_wp2_with fail
  rw [← HW.out]
  go_loopw [5] (fun c wr => ∃ k : Nat, k ≤ es.length ∧ c = .int .i64 k ∧ Hid (∀ e, e < k → Df.Dir1 s e) ∧ BxAt w wr n ao ca es ⟨a1, a2, a3, a4, c1, c2, c3, c4⟩ s) (fun c _ => es.length - (intOf c).toNat)
  case atStart => exact ⟨0, Nat.zero_le _, rfl, fun v hv => (by omega), HBX.out⟩
  case round =>
    obtain ⟨k, hk, rfl, HALL, hb⟩ := hrel
    have HB := Nu.hid hb
    have x0 := hb.x0
    have x1 := hb.x1
    have k3 := hb.k3
    dsimp only at k3
    rw [l4] at k3
    by_cases hlt : k < es.length
    · obtain ⟨b4, o4, e4, d4⟩ := lst_at (HF.out wr hb).l4 (i := k) (by omega)
      dsimp only at e4
      subst e4
      obtain ⟨x, hx⟩ : ∃ x, s.ori.getD k (-1) = x := ⟨_, rfl⟩
      rw [hx] at d4
      have HX : Hid (Df.at_ s.ori k = x) := hx
      have v0 : (0 : Int) ≤ (k : Int) := by omega
      have v1 : (k : Int) < (es.length : Int) := by omega
      have HLT := Nu.hid hlt
      by_cases hgood : x = 2 * (k : Int) ∨ x = 2 * (k : Int) + 1
      · have HG : Hid (∀ e, e < k + 1 → Df.Dir1 s e) := fun e he => by
          by_cases e1 : e = k
          · rw [e1]
            unfold Df.Dir1
            rw [HX.out]
            exact hgood
          · exact HALL.out e (by omega)
        rcases hgood with h1 | h1
        · have t1 : (x != 2 * (k : Int)) = false := by simp [h1]
          clear hb hx hlt h1
          go_wp2
          go_roundw
          case rel => exact ⟨k + 1, by have := HLT.out; omega, by go_num, HG.out, HB.out⟩
          case measure => simp [intOf]; omega
        · have t1 : (x != 2 * (k : Int)) = true := by simp; omega
          have t2 : (x != 2 * (k : Int) + 1) = false := by simp; omega
          clear hb hx hlt h1
          go_wp2
          go_roundw
          case rel => exact ⟨k + 1, by have := HLT.out; omega, by go_num, HG.out, HB.out⟩
          case measure => simp [intOf]; omega
      · have t1 : (x != 2 * (k : Int)) = true := by simp; omega
        have t2 : (x != 2 * (k : Int) + 1) = true := by simp; omega
        have HNO : Hid (¬ Df.Edge1 es s k) := by
          rintro ⟨h, h1, h2, _⟩
          rw [HX.out] at h2
          omega
        clear hb hx hlt hgood
        go_wp2
        go_ret
        exact ⟨false, rfl, ⟨fun h => (by cases h), fun h => absurd (h k HLT.out) HNO.out⟩, HB.out.bel⟩
    · have hd : ¬ ((k : Int) < (es.length : Int)) := by omega
      have HDIR : Hid (∀ e, e < es.length → Df.Dir1 s e) := fun e he => HALL.out e (by omega)
      clear hb hlt
      go_wp2
      clear x0 x1 k3 hd
      go_loopw [7] (fun c wr => ∃ k : Nat, k ≤ es.length ∧ c = .int .i64 k ∧ Hid (∀ e, e < k → Df.Edge1 es s e) ∧ BxAt w wr n ao ca es ⟨a1, a2, a3, a4, c1, c2, c3, c4⟩ s) (fun c _ => es.length - (intOf c).toNat)
      case atStart => exact ⟨0, Nat.zero_le _, rfl, fun v hv => (by omega), HB.out⟩
      case round =>
        obtain ⟨k, hk, rfl, HALL2, hb⟩ := hrel
        have HB2 := Nu.hid hb
        have x0 := hb.x0
        have x1 := hb.x1
        have k3 := hb.k3
        dsimp only at k3
        rw [l4] at k3
        by_cases hlt : k < es.length
        · have hFw := HF.out wr hb
          obtain ⟨b4, o4, e4, d4⟩ := lst_at hFw.l4 (i := k) (by omega)
          dsimp only at e4
          subst e4
          obtain ⟨x, hx⟩ : ∃ x, s.ori.getD k (-1) = x := ⟨_, rfl⟩
          rw [hx] at d4
          have hdir := HDIR.out k hlt
          unfold Df.Dir1 at hdir
          rw [show Df.at_ s.ori k = x from hx] at hdir
          obtain ⟨h, rfl⟩ : ∃ h : Nat, x = (h : Int) := ⟨x.toNat, by omega⟩
          have hhl : h < 2 * es.length := by omega
          have hfl := Cs.half_lt HV.out hhl
          have HE : Hid (Df.Edge1 es s k ↔ (Df.at_ s.par (Cs.to es h) = (h : Int) ∨ Df.Anc es s (Cs.to es h) (Cs.fr es h))) := by
            constructor
            · rintro ⟨h', h1, h2, h3⟩
              have h4 : Df.at_ s.ori k = (h : Int) := hx
              obtain rfl : h' = h := by omega
              exact h3
            · exact fun h3 => ⟨h, by omega, hx, h3⟩
          have HNE := Nu.hid (fr_ne_to HV.out hhl)
          have HT : Hid (∀ V, BxAt w V n ao ca es ⟨a1, a2, a3, some ⟨b4, o4, none⟩, c1, c2, c3, c4⟩ s → Calls Tryz.prog 49 #[.agg #[.int .i64 (n : Int), .slice ao es.length ca], .int .i64 (h : Int)] V fun r w' => r = .returned (.int .i64 (Cs.to es h : Int)) ∧ Below V.heap.size V w') := fun V hV => HTO.out V h hV hhl
          have HR : Hid (∀ V, BxAt w V n ao ca es ⟨a1, a2, a3, some ⟨b4, o4, none⟩, c1, c2, c3, c4⟩ s → Calls Tryz.prog 50 #[.agg #[.int .i64 (n : Int), .slice ao es.length ca], .int .i64 (h : Int)] V fun r w' => r = .returned (.int .i64 (Cs.fr es h : Int)) ∧ Below V.heap.size V w') := fun V hV => HFR.out V h hV hhl
          obtain ⟨t, ht⟩ : ∃ t, Cs.to es h = t := ⟨_, rfl⟩
          obtain ⟨u, hu⟩ : ∃ u, Cs.fr es h = u := ⟨_, rfl⟩
          rw [ht, hu] at hfl HE HNE
          rw [ht] at HT
          rw [hu] at HR
          obtain ⟨hun, htn⟩ := hfl
          have t0 : (0 : Int) ≤ (t : Int) := by omega
          have t1 : (t : Int) < (n : Int) := by omega
          have u0 : (0 : Int) ≤ (u : Int) := by omega
          have u1 : (u : Int) < (n : Int) := by omega
          have HL2 : Hid (∀ V, Below wr.heap.size wr V → BxAt w V n ao ca es ⟨a1, a2, a3, some ⟨b4, o4, none⟩, c1, c2, c3, c4⟩ s ∧ V.cell? ⟨w.heap.size, 0, none⟩ = some (.int .i64 n) ∧ V.cell? ⟨w.heap.size, 1, none⟩ = some (.slice ao es.length ca)) := fun V hV => ⟨hb.later hV, (hb.later hV).x0, (hb.later hV).x1⟩
          have hbd : Below wr.heap.size wr wr.drew := (Below.refl _ _).drew
          have v0 : (0 : Int) ≤ (k : Int) := by omega
          have v1 : (k : Int) < (es.length : Int) := by omega
          have HLT := Nu.hid hlt
          have HABV := Nu.hid (fun V hV => HAB.out V t u hV hun)
          clear hb hx hdir ht hu hFw hlt hhl
          go_wp2_with fail
          go_region_held3 (fun V => V.cell? ⟨w.heap.size, 0, none⟩ = some (.int .i64 n) ∧ V.cell? ⟨w.heap.size, 1, none⟩ = some (.slice ao es.length ca))
            (exact (HL2.out _ (by first | assumption | exact hbd)).2)
            ((first
              | (go_at_call 49; refine (HT.out _ (HL2.out _ (by first | assumption | exact hbd)).1).mono ?_; rintro e V1 ⟨rfl, hv1⟩; have hb1 : Below wr.heap.size wr V1 := Below.trans (by first | assumption | exact hbd) (hv1.mono (Below.size (by first | assumption | exact hbd))))
              | (go_at_call 50; refine (HR.out _ (HL2.out _ (by first | assumption | exact hbd)).1).mono ?_; rintro e V2 ⟨rfl, hv2⟩; have hb2 : Below wr.heap.size wr V2 := Below.trans (by first | assumption | exact hbd) (hv2.mono (Below.size (by first | assumption | exact hbd))))))
          all_goals
            have hq := (HL2.out _ hb2).1
            have HQ := Nu.hid hq
            have hFw := HF.out _ hq
            obtain ⟨b1, o1, e1, d1⟩ := lst_at hFw.l1 (i := t) (by omega)
            obtain ⟨b2, o2, e2, d2⟩ := lst_at hFw.l2 (i := t) (by omega)
            obtain ⟨b5, o5, e5, d5⟩ := lst_at hFw.l2 (i := u) (by omega)
            dsimp only at e1 e2 e5
            subst e1
            subst e2
            injection e5 with e5
            injection e5 with e6 e7
            subst e6
            subst e7
            obtain ⟨y, hy⟩ : ∃ y, s.par.getD t (-1) = y := ⟨_, rfl⟩
            obtain ⟨p, hp⟩ : ∃ p, s.hei.getD t (-1) = p := ⟨_, rfl⟩
            obtain ⟨q, hq2⟩ : ∃ q, s.hei.getD u (-1) = q := ⟨_, rfl⟩
            rw [hy] at d1
            rw [hp] at d2
            rw [hq2] at d5
            have HY : Hid (Df.at_ s.par t = y) := hy
            have HP : Hid (Df.at_ s.hei t = p) := hp
            have HQ2 : Hid (Df.at_ s.hei u = q) := hq2
            have z0 := hq.x0
            have z1 := hq.x1
            have j0 := hq.k0
            have j1 := hq.k1
            have j2 := hq.k2
            have j3 := hq.k3
            dsimp only at j0 j1 j2 j3
            rw [l1] at j0
            rw [l2] at j1
            rw [l3] at j2
            rw [l4] at j3
            clear hq hFw hy hp hq2 x0 x1 k3 d4 hb1 hb2 hv1 hv2
            by_cases hyh : y = (h : Int)
            · have t5 : (y == (h : Int)) = true := by simp [hyh]
              have HG : Hid (Df.Edge1 es s k) := HE.out.2 (.inl (by rw [HY.out]; exact hyh))
              clear hyh
              go_wp2
              go_roundw
              case rel =>
                refine ⟨k + 1, by have := HLT.out; omega, by go_num, fun e he => ?_, HQ.out⟩
                by_cases e1 : e = k
                · rw [e1]; exact HG.out
                · exact HALL2.out e (by omega)
              case measure => simp [intOf]; omega
            · have t5 : (y == (h : Int)) = false := by simp [hyh]
              have HYH := Nu.hid hyh
              clear hyh
              by_cases hpq : q ≤ p
              · have t6 : decide (q ≤ p) = true := by simp [hpq]
                have HNO : Hid (¬ Df.Edge1 es s k) := fun h => by
                  rcases HE.out.1 h with h | h
                  · rw [HY.out] at h
                    exact HYH.out h
                  · have := HANC.out t u hun HNE.out h
                    rw [HP.out, HQ2.out] at this
                    omega
                clear hpq
                go_wp2_with fail
                go_quiet (fail)
                go_wp2
                go_ret
                exact ⟨false, rfl, ⟨fun h => (by cases h), fun h => absurd (h k HLT.out) HNO.out⟩, (HQ.out.drewN _).bel⟩
              · have t6 : decide (q ≤ p) = false := by simp [hpq]
                clear hpq
                go_wp2_with fail
                go_quiet (fail)
                have HQN := Nu.hid (HQ.out.drewN nq)
                obtain ⟨V, hV⟩ : ∃ V, V = V2.drewN nq := ⟨_, rfl⟩
                rw [← hV] at HQN ⊢
                have r0 := HQN.out.x0
                have r1 := HQN.out.x1
                have r2 := HQN.out.k0
                have r3 := HQN.out.k1
                have r4 := HQN.out.k2
                have r5 := HQN.out.k3
                dsimp only at r2 r3 r4 r5
                rw [l1] at r2
                rw [l2] at r3
                rw [l3] at r4
                rw [l4] at r5
                have HCA := Nu.hid (HABV.out V HQN.out)
                clear hV z0 z1 j0 j1 j2 j3 d1 d2 d5
                go_wp2_with (go_at_call 52; refine HCA.out.mono ?_; rintro e V3 ⟨b, rfl, hb3, hv3⟩; have HB3 := Nu.hid hb3; have HV3 := Nu.hid hv3; clear hb3 hv3; cases b)
                · go_ret
                  refine ⟨false, rfl, ⟨fun h => (by cases h), fun h => ?_⟩, (HQN.out.later HV3.out).bel⟩
                  rcases HE.out.1 (h k HLT.out) with h | h
                  · rw [HY.out] at h
                    exact absurd h HYH.out
                  · have := HB3.out.2 h
                    cases this
                · go_roundw
                  case rel =>
                    refine ⟨k + 1, by have := HLT.out; omega, by go_num, fun e he => ?_, HQN.out.later HV3.out⟩
                    by_cases e1 : e = k
                    · rw [e1]; exact HE.out.2 (.inr (HB3.out.1 trivial))
                    · exact HALL2.out e (by omega)
                  case measure => simp [intOf]; omega
        · have hd : ¬ ((k : Int) < (es.length : Int)) := by omega
          have HFIN : Hid (∀ e, e < es.length → Df.Edge1 es s e) := fun e he => HALL2.out e (by omega)
          clear hb hlt
          go_wp2
          go_ret
          exact ⟨true, rfl, ⟨fun _ => HFIN.out, fun _ => rfl⟩, HB2.out.bel⟩
end

end Go.Proofs.YtmgoahbloppdmaaGreat

/-
  The document's hangs.
-/
namespace Go.Proofs.YtmgoahbloppdmaaGreat
open Go.RowKit

section
variable {w W V : World} {n : Nat} {ao : Option Addr} {ca : Nat} {es : List (Int × Int)} {f : For} {s : Df.St}

set_option maxRecDepth 100000 in
set_option maxHeartbeats 16000000 in
theorem rhangs_any (he : EdgesAt w ao es) (hv : Si.Val n es) (hF : LstF w f s) (hL : Df.Lens n es s) :
    Calls Tryz.prog 28 #[.agg #[.int .i64 (n : Int), .slice ao es.length ca], f.val s] w (BoolPost (Df.Hang n es s) w) := by
  obtain ⟨l1, l2, l3, l4⟩ := hL
  have hn1 := hF.n1
  have hfew := hv.few
  have hnn := hv.hi
  obtain ⟨W, hW⟩ : ∃ W, W = bxw w n ao ca es f s := ⟨_, rfl⟩
  have hbx : BxAt w W n ao ca es f s := by rw [hW]; exact BxAt.new
  have HBX := Nu.hid hbx
  have HF : Hid (∀ V, BxAt w V n ao ca es f s → LstF V f s) := fun V hV => hF.later hV.bel
  have HTO : Hid (∀ V (j : Nat), BxAt w V n ao ca es f s → j < 2 * es.length → Calls Tryz.prog 49 #[.agg #[.int .i64 (n : Int), .slice ao es.length ca], .int .i64 (j : Int)] V fun e w' => e = .returned (.int .i64 (Cs.to es j : Int)) ∧ Below V.heap.size V w') := fun V j hV hj => r4to_any n ao ca es j V (he.later hV.bel) hv hj
  have HFR : Hid (∀ V (j : Nat), BxAt w V n ao ca es f s → j < 2 * es.length → Calls Tryz.prog 50 #[.agg #[.int .i64 (n : Int), .slice ao es.length ca], .int .i64 (j : Int)] V fun e w' => e = .returned (.int .i64 (Cs.fr es j : Int)) ∧ Below V.heap.size V w') := fun V j hV hj => r4from_any n ao ca es j V (he.later hV.bel) hv hj
  have HV := Nu.hid hv
  obtain ⟨a1, a2, a3, a4, c1, c2, c3, c4⟩ := f
  unfold For.val
  dsimp only
  unfold bxw at hW
  dsimp only at hW
  rw [l1] at hn1
  rw [l1, l2, l3, l4] at hW ⊢
  have HW := Nu.hid hW
  clear hF hW hbx he hv
  go_enter Tryz.func28, Tryz.ntmps28
  go_wp2_with fail
  rw [← HW.out]
  go_loopw [5] (fun c wr => ∃ k : Nat, k ≤ n ∧ c = .int .i64 k ∧ (∀ v, v < k → Df.Hang1 es s v) ∧ BxAt w wr n ao ca es ⟨a1, a2, a3, a4, c1, c2, c3, c4⟩ s) (fun c _ => n - (intOf c).toNat)
  case atStart => exact ⟨0, Nat.zero_le _, rfl, fun v hv => (by omega), HBX.out⟩
  case round =>
    obtain ⟨k, hk, rfl, hall, hb⟩ := hrel
    have HALL := Nu.hid hall
    have HB := Nu.hid hb
    have x0 := hb.x0
    have x1 := hb.x1
    have k0 := hb.k0
    have k1 := hb.k1
    have k3 := hb.k3
    dsimp only at k0 k1 k3
    rw [l1] at k0
    rw [l2] at k1
    rw [l4] at k3
    by_cases hlt : k < n
    · have hFw := HF.out wr hb
      obtain ⟨b1, o1, e1, d1⟩ := lst_at hFw.l1 (i := k) (by omega)
      obtain ⟨b2, o2, e2, d2⟩ := lst_at hFw.l2 (i := k) (by omega)
      dsimp only at e1 e2
      subst e1
      subst e2
      obtain ⟨x, hx⟩ : ∃ x, s.par.getD k (-1) = x := ⟨_, rfl⟩
      obtain ⟨y, hy⟩ : ∃ y, s.hei.getD k (-1) = y := ⟨_, rfl⟩
      have hxa : Df.at_ s.par k = x := hx
      have hya : Df.at_ s.hei k = y := hy
      rw [hx] at d1
      rw [hy] at d2
      have v1 : (k : Int) < (n : Int) := by omega
      have v0 : (0 : Int) ≤ (k : Int) := by omega
      have HLT := Nu.hid hlt
      by_cases hx1 : x = -1
      · have hH : Df.Hang1 es s k ↔ y = 0 := by
          unfold Df.Hang1
          rw [hxa, hya]
          constructor
          · rintro (⟨_, h⟩ | ⟨h, _, h1, _⟩)
            · exact h
            · omega
          · exact fun h => .inl ⟨hx1, h⟩
        have HH := Nu.hid hH
        clear hFw hb hall hx hy hH hxa hya
        subst hx1
        by_cases hy0 : y = 0
        · subst hy0
          clear hlt
          go_wp2_with fail
          go_roundw
          case rel =>
            refine ⟨k + 1, by have := HLT.out; omega, by go_num, fun v hv => ?_, HB.out⟩
            by_cases e : v = k
            · rw [e]; exact HH.out.2 rfl
            · exact HALL.out v (by omega)
          case measure => simp [intOf]; omega
        · have HY := Nu.hid hy0
          have t2 : (y == 0) = false := by simp [hy0]
          clear hlt hy0
          go_wp2_with fail
          go_ret
          exact ⟨false, rfl, ⟨fun h => (by cases h), fun h => absurd (HH.out.1 (h k HLT.out)) HY.out⟩, HB.out.bel⟩
      · have t1 : (x == -1) = false := by simp [hx1]
        by_cases hx0 : 0 ≤ x
        · have hx0' : ¬ x < 0 := by omega
          by_cases hxm : x < 2 * (es.length : Int)
          · obtain ⟨e, rfl⟩ : ∃ e : Nat, x = (e : Int) := ⟨x.toNat, by omega⟩
            have hel : e < 2 * es.length := by omega
            have hfl := (Cs.half_lt HV.out hel).1
            obtain ⟨jh, hjh⟩ : ∃ jh, e / 2 = jh := ⟨_, rfl⟩
            have htd : (e : Int).tdiv 2 = (jh : Int) := by rw [Int.tdiv_eq_ediv_of_nonneg (by omega)]; omega
            have htd2 : (e : Int) / 2 = (jh : Int) := by omega
            have j0 : (0 : Int) ≤ (jh : Int) := by omega
            have j1 : (jh : Int) < (es.length : Int) := by omega
            have hjw : IntKind.i64.wrap (jh : Int) = (jh : Int) := by rw [IntKind.wrap_i64]; omega
            obtain ⟨b4, o4, e4, d4⟩ := lst_at hFw.l4 (i := jh) (by omega)
            obtain ⟨b5, o5, e5, d5⟩ := lst_at hFw.l2 (i := Cs.fr es e) (by omega)
            dsimp only at e4 e5
            subst e4
            injection e5 with e5
            injection e5 with e6 e7
            subst e6
            subst e7
            obtain ⟨z, hz⟩ : ∃ z, s.hei.getD (Cs.fr es e) (-1) = z := ⟨_, rfl⟩
            obtain ⟨o, hoo⟩ : ∃ o, s.ori.getD jh (-1) = o := ⟨_, rfl⟩
            rw [hz] at d5
            rw [hoo] at d4
            have hH : Df.Hang1 es s k ↔ (Cs.to es e = k ∧ o = (e : Int) ∧ y = IntKind.i64.wrap (z + 1)) := by
              unfold Df.Hang1
              rw [hxa, hya]
              constructor
              · rintro (⟨h, _⟩ | ⟨h', h1, h2, h3, h4, h5⟩)
                · omega
                · obtain rfl : h' = e := by omega
                  refine ⟨h3, ?_, ?_⟩
                  · rw [← hoo, ← hjh]; exact h4
                  · rw [← hz]; exact h5
              · rintro ⟨h0, h1, h2⟩
                refine .inr ⟨e, hel, rfl, h0, ?_, ?_⟩
                · show s.ori.getD (e / 2) (-1) = _
                  rw [hjh, hoo]; exact h1
                · rw [h2, ← hz]
            have HH := Nu.hid hH
            obtain ⟨fe, hfe⟩ : ∃ fe, Cs.fr es e = fe := ⟨_, rfl⟩
            obtain ⟨te, hte⟩ : ∃ te, Cs.to es e = te := ⟨_, rfl⟩
            have HT := Nu.hid (HTO.out wr e hb hel)
            have HR : Hid (∀ V, BxAt w V n ao ca es ⟨some ⟨b1, o1, none⟩, some ⟨b2, o2, none⟩, a3, some ⟨b4, o4, none⟩, c1, c2, c3, c4⟩ s → Calls Tryz.prog 50 #[.agg #[.int .i64 (n : Int), .slice ao es.length ca], .int .i64 (e : Int)] V fun r w' => r = .returned (.int .i64 (fe : Int)) ∧ Below V.heap.size V w') := fun V hV => by
              have := HFR.out V e hV hel
              rw [hfe] at this
              exact this
            rw [hte] at HT HH
            rw [hfe] at hfl d5
            have f0 : (0 : Int) ≤ (fe : Int) := by omega
            have f1 : (fe : Int) < (n : Int) := by omega
            have HS : Hid (∀ V, Below wr.heap.size wr V → BxAt w V n ao ca es ⟨some ⟨b1, o1, none⟩, some ⟨b2, o2, none⟩, a3, some ⟨b4, o4, none⟩, c1, c2, c3, c4⟩ s ∧ V.cell? ⟨w.heap.size, 0, none⟩ = some (.int .i64 n) ∧ V.cell? ⟨w.heap.size, 1, none⟩ = some (.slice ao es.length ca) ∧ V.cell? ⟨w.heap.size + 1, 0, none⟩ = some (.slice (some ⟨b1, o1, none⟩) n c1) ∧ V.cell? ⟨w.heap.size + 1, 1, none⟩ = some (.slice (some ⟨b2, o2, none⟩) n c2) ∧ V.cell? ⟨w.heap.size + 1, 3, none⟩ = some (.slice (some ⟨b4, o4, none⟩) es.length c4) ∧ V.cell? ⟨b2, o2 + k, none⟩ = some (.int .i64 y) ∧ V.cell? ⟨b2, o2 + fe, none⟩ = some (.int .i64 z) ∧ V.cell? ⟨b4, o4 + jh, none⟩ = some (.int .i64 o)) := fun V hV => by
              have hq := hb.later hV
              have q0 := hq.k0
              have q1 := hq.k1
              have q3 := hq.k3
              dsimp only at q0 q1 q3
              rw [l1] at q0
              rw [l2] at q1
              rw [l4] at q3
              exact ⟨hq, hq.x0, hq.x1, q0, q1, q3, (hV.cell (p := ⟨b2, _, none⟩) (block_lt_of_cell d2)).trans d2, (hV.cell (p := ⟨b2, _, none⟩) (block_lt_of_cell d5)).trans d5, (hV.cell (p := ⟨b4, _, none⟩) (block_lt_of_cell d4)).trans d4⟩
            have hgm : ¬ ((e : Int) ≥ 2 * (es.length : Int)) := by omega
            clear hFw hb hall hx hy hH hxa hya hx1 hz hoo hfe hte hlt hx0
            by_cases hto : te = k
            · subst hto
              by_cases ho : o = (e : Int)
              · subst ho
                by_cases hyz : y = IntKind.i64.wrap (z + 1)
                · have HY := Nu.hid hyz
                  have t5 : (y != IntKind.i64.wrap (z + 1)) = false := by simp [hyz]
                  clear hyz
                  go_wp2_with (go_at_call 49; refine HT.out.mono ?_; rintro r V1 ⟨rfl, hv1⟩; obtain ⟨hq1, z0, z1, z2, z3, z4, z5, z6, z7⟩ := HS.out V1 hv1; have HQ1 := Nu.hid hq1; have HV1 := Nu.hid hv1; clear hv1 hq1)
                  have hbd : Below V1.heap.size V1 V1.drew := (Below.refl _ _).drew
                  have HS1 : Hid (∀ V, Below V1.heap.size V1 V → BxAt w V n ao ca es ⟨some ⟨b1, o1, none⟩, some ⟨b2, o2, none⟩, a3, some ⟨b4, o4, none⟩, c1, c2, c3, c4⟩ s ∧ V.cell? ⟨w.heap.size, 0, none⟩ = some (.int .i64 n) ∧ V.cell? ⟨w.heap.size, 1, none⟩ = some (.slice ao es.length ca) ∧ V.cell? ⟨w.heap.size + 1, 1, none⟩ = some (.slice (some ⟨b2, o2, none⟩) n c2) ∧ V.cell? ⟨b2, o2 + te, none⟩ = some (.int .i64 y) ∧ V.cell? ⟨b2, o2 + fe, none⟩ = some (.int .i64 z)) := fun V hV => by
                    obtain ⟨y1, y2, y3, y4, y5, y6, y7, y8, y9⟩ := HS.out V (HV1.out.trans (hV.mono HV1.out.size))
                    exact ⟨y1, y2, y3, y5, y7, y8⟩
                  clear x0 x1 k0 k1 k3 d1 d2 d4 d5
                  go_region_held3 (fun V => V.cell? ⟨w.heap.size, 0, none⟩ = some (.int .i64 n) ∧ V.cell? ⟨w.heap.size, 1, none⟩ = some (.slice ao es.length ca) ∧ V.cell? ⟨w.heap.size + 1, 1, none⟩ = some (.slice (some ⟨b2, o2, none⟩) n c2) ∧ V.cell? ⟨b2, o2 + te, none⟩ = some (.int .i64 y) ∧ V.cell? ⟨b2, o2 + fe, none⟩ = some (.int .i64 z))
                    (exact (HS1.out _ (by first | assumption | exact hbd)).2)
                    ((go_at_call 50; refine (HR.out _ (HS1.out _ (by first | assumption | exact hbd)).1).mono ?_; rintro e V2 ⟨rfl, hv2⟩; have hb1 : Below V1.heap.size V1 V2 := Below.trans (by first | assumption | exact hbd) (hv2.mono (Below.size (by first | assumption | exact hbd)))))
                  all_goals
                    have HB1 := Nu.hid (HS1.out _ hb1).1
                    clear hb1
                    go_wp2
                    go_roundw
                    case rel =>
                      refine ⟨te + 1, by have := HLT.out; omega, by go_num, fun v hv => ?_, HB1.out⟩
                      by_cases e : v = te
                      · rw [e]; exact HH.out.2 ⟨trivial, trivial, HY.out⟩
                      · exact HALL.out v (by omega)
                    case measure => simp [intOf]; omega
                · have HY := Nu.hid hyz
                  have t5 : (y != IntKind.i64.wrap (z + 1)) = true := by simp [hyz]
                  clear hyz
                  go_wp2_with (go_at_call 49; refine HT.out.mono ?_; rintro r V1 ⟨rfl, hv1⟩; obtain ⟨hq1, z0, z1, z2, z3, z4, z5, z6, z7⟩ := HS.out V1 hv1; have HQ1 := Nu.hid hq1; have HV1 := Nu.hid hv1; clear hv1 hq1)
                  have hbd : Below V1.heap.size V1 V1.drew := (Below.refl _ _).drew
                  have HS1 : Hid (∀ V, Below V1.heap.size V1 V → BxAt w V n ao ca es ⟨some ⟨b1, o1, none⟩, some ⟨b2, o2, none⟩, a3, some ⟨b4, o4, none⟩, c1, c2, c3, c4⟩ s ∧ V.cell? ⟨w.heap.size, 0, none⟩ = some (.int .i64 n) ∧ V.cell? ⟨w.heap.size, 1, none⟩ = some (.slice ao es.length ca) ∧ V.cell? ⟨w.heap.size + 1, 1, none⟩ = some (.slice (some ⟨b2, o2, none⟩) n c2) ∧ V.cell? ⟨b2, o2 + te, none⟩ = some (.int .i64 y) ∧ V.cell? ⟨b2, o2 + fe, none⟩ = some (.int .i64 z)) := fun V hV => by
                    obtain ⟨y1, y2, y3, y4, y5, y6, y7, y8, y9⟩ := HS.out V (HV1.out.trans (hV.mono HV1.out.size))
                    exact ⟨y1, y2, y3, y5, y7, y8⟩
                  clear x0 x1 k0 k1 k3 d1 d2 d4 d5
                  go_region_held3 (fun V => V.cell? ⟨w.heap.size, 0, none⟩ = some (.int .i64 n) ∧ V.cell? ⟨w.heap.size, 1, none⟩ = some (.slice ao es.length ca) ∧ V.cell? ⟨w.heap.size + 1, 1, none⟩ = some (.slice (some ⟨b2, o2, none⟩) n c2) ∧ V.cell? ⟨b2, o2 + te, none⟩ = some (.int .i64 y) ∧ V.cell? ⟨b2, o2 + fe, none⟩ = some (.int .i64 z))
                    (exact (HS1.out _ (by first | assumption | exact hbd)).2)
                    ((go_at_call 50; refine (HR.out _ (HS1.out _ (by first | assumption | exact hbd)).1).mono ?_; rintro e V2 ⟨rfl, hv2⟩; have hb1 : Below V1.heap.size V1 V2 := Below.trans (by first | assumption | exact hbd) (hv2.mono (Below.size (by first | assumption | exact hbd)))))
                  all_goals
                    have HB1 := Nu.hid (HS1.out _ hb1).1
                    clear hb1
                    go_wp2
                    go_ret
                    exact ⟨false, rfl, ⟨fun h => (by cases h), fun h => absurd (HH.out.1 (h _ HLT.out)).2.2 HY.out⟩, HB1.out.bel⟩
              · have HO := Nu.hid ho
                have t3 : (o != (e : Int)) = true := by simp [ho]
                clear ho
                go_wp2_with (go_at_call 49; refine HT.out.mono ?_; rintro r V1 ⟨rfl, hv1⟩; obtain ⟨hq1, z0, z1, z2, z3, z4, z5, z6, z7⟩ := HS.out V1 hv1; have HQ1 := Nu.hid hq1; clear hv1 hq1)
                go_ret
                exact ⟨false, rfl, ⟨fun h => (by cases h), fun h => absurd (HH.out.1 (h _ HLT.out)).2.1 HO.out⟩, HQ1.out.bel⟩
            · have HO := Nu.hid hto
              have t3 : ((te : Int) != (k : Int)) = true := by simp; omega
              clear hto
              go_wp2_with (go_at_call 49; refine HT.out.mono ?_; rintro r V1 ⟨rfl, hv1⟩; obtain ⟨hq1, z0, z1, z2, z3, z4, z5, z6, z7⟩ := HS.out V1 hv1; have HQ1 := Nu.hid hq1; clear hv1 hq1)
              go_ret
              exact ⟨false, rfl, ⟨fun h => (by cases h), fun h => absurd (HH.out.1 (h _ HLT.out)).1 HO.out⟩, HQ1.out.bel⟩
          · have hno : ¬ Df.Hang1 es s k := by
              unfold Df.Hang1
              rw [hxa, hya]
              rintro (⟨h, _⟩ | ⟨h', h1, h2, _⟩)
              · exact hx1 h
              · omega
            have HNO := Nu.hid hno
            have hgm : x ≥ 2 * (es.length : Int) := by omega
            clear hFw hb hall hx hy hxa hya hx1 hlt hno hxm
            go_wp2_with fail
            go_ret
            exact ⟨false, rfl, ⟨fun h => (by cases h), fun h => absurd (h _ HLT.out) HNO.out⟩, HB.out.bel⟩
        · have hx0' : x < 0 := by omega
          have hno : ¬ Df.Hang1 es s k := by
            unfold Df.Hang1
            rw [hxa, hya]
            rintro (⟨h, _⟩ | ⟨h', h1, h2, _⟩)
            · exact hx1 h
            · omega
          have HNO := Nu.hid hno
          clear hFw hb hall hx hy hxa hya hx1 hlt hno
          go_wp2_with fail
          go_ret
          exact ⟨false, rfl, ⟨fun h => (by cases h), fun h => absurd (h _ HLT.out) HNO.out⟩, HB.out.bel⟩
    · have hd : ¬ ((k : Int) < (n : Int)) := by omega
      have HK : Hid (k = n) := show k = n by omega
      clear hall hb
      go_wp2
      go_ret
      exact ⟨true, rfl, ⟨fun _ v hv => HALL.out v (by rw [HK.out]; exact hv), fun _ => rfl⟩, HB.out.bel⟩
end

end Go.Proofs.YtmgoahbloppdmaaGreat
