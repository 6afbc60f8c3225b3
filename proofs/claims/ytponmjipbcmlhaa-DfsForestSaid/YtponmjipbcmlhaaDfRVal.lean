/-
  The document's Valid.
-/
import Derived.Test.YtponmjipbcmlhaaDfRLd
import Derived.Test.YtponmjipbcmlhaaDfRHg
import Derived.Test.YtponmjipbcmlhaaCsRV
import Derived.Test.YtponmjipbcmlhaaDfRead
namespace Go.Proofs.Ytponmjipbcmlhaa
open Go.RowKit

section
variable {w : World} {n : Nat} {ao : Option Addr} {ca : Nat} {es : List (Int × Int)} {f : For} {s : Df.St}

/-- A question that is answered yes. -/
theorem BoolPost.yes {P : Prop} {w : World} {fn : FuncId} {args : Array Value} (h : Calls Try.prog fn args w (BoolPost P w)) (hp : P) : Calls Try.prog fn args w fun e w' => e = .returned (.bool true) ∧ Below w.heap.size w w' := h.mono (by
  rintro e w' ⟨b, rfl, h1, h2⟩
  exact ⟨by rw [h1.2 hp], h2⟩)
theorem BoolPost.no {P : Prop} {w : World} {fn : FuncId} {args : Array Value} (h : Calls Try.prog fn args w (BoolPost P w)) (hp : ¬ P) : Calls Try.prog fn args w fun e w' => e = .returned (.bool false) ∧ Below w.heap.size w w' := h.mono (by
  rintro e w' ⟨b, rfl, h1, h2⟩
  cases b with
  | true => exact absurd (h1.1 rfl) hp
  | false => exact ⟨rfl, h2⟩)

set_option maxRecDepth 100000 in
set_option maxHeartbeats 16000000 in
theorem rdvalid_any (n : Int) (ao : Option Addr) (ca : Nat) (es : List (Int × Int)) (f : For) (s : Df.St) (w : World) (he : EdgesAt w ao es) (hl : es.length ≤ 4611686018427387904) (hF : LstF w f s) :
    Calls Try.prog 19 #[graphVal n ao es.length ca, f.val s] w (BoolPost (IsVF n es s) w) := by
  by_cases hval : Si.Val n es
  · obtain ⟨m, rfl⟩ : ∃ m : Nat, n = (m : Int) := ⟨n.toNat, by have := hval.lo; omega⟩
    obtain ⟨W, hW⟩ : ∃ W, W = bxw w m ao ca es f s := ⟨_, rfl⟩
    have hbx : BxAt w W m ao ca es f s := by rw [hW]; exact BxAt.new
    have HBX := Nu.hid hbx
    have hvf : IsVF m es s ↔ Df.VF m es s := by
      constructor
      · rintro ⟨m', e, _, h⟩
        obtain rfl : m = m' := by omega
        exact h
      · exact fun h => ⟨m, rfl, hval, h⟩
    have hrv := r4valid_any m ao ca es W (he.later hbx.bel) hl
    have e0 : Si.valid m es = true := by unfold Si.valid; simp [hval]
    rw [e0] at hrv
    unfold graphVal at hrv ⊢
    rw [show BoolPost (IsVF m es s) w = BoolPost (Df.VF m es s) w from by rw [hvf]]
    have HRV := Nu.hid hrv
    have HC0 : Hid (∀ V, BxAt w V m ao ca es f s → V.cell? ⟨w.heap.size, 0, none⟩ = some (.int .i64 m) ∧ V.cell? ⟨w.heap.size, 1, none⟩ = some (.slice ao es.length ca) ∧ V.cell? ⟨w.heap.size + 1, 0, none⟩ = some (.slice f.a1 s.par.length f.c1) ∧ V.cell? ⟨w.heap.size + 1, 1, none⟩ = some (.slice f.a2 s.hei.length f.c2) ∧ V.cell? ⟨w.heap.size + 1, 2, none⟩ = some (.slice f.a3 s.ord.length f.c3) ∧ V.cell? ⟨w.heap.size + 1, 3, none⟩ = some (.slice f.a4 s.ori.length f.c4)) := fun V h => ⟨h.x0, h.x1, h.k0, h.k1, h.k2, h.k3⟩
    by_cases hL : Df.Lens m es s
    · have HVF : Hid (Df.VF m es s ↔ Df.Hang m es s ∧ (Df.Once m s m ∧ ∃ q, Df.side m es s m = some q) ∧ ∀ e, e < es.length → Df.Edge1 es s e) := ⟨fun h => ⟨h.hang, ⟨h.once, h.side⟩, h.edge⟩, fun h => ⟨hL, h.2.1.1, h.1, h.2.1.2, h.2.2⟩⟩
      have fargs : f.val s = .agg #[.slice f.a1 s.par.length f.c1, .slice f.a2 s.hei.length f.c2, .slice f.a3 s.ord.length f.c3, .slice f.a4 s.ori.length f.c4] := rfl
      have HHG : Hid (∀ V, BxAt w V m ao ca es f s → Calls Try.prog 32 #[.agg #[.int .i64 (m : Int), .slice ao es.length ca], f.val s] V (BoolPost (Df.Hang m es s) V)) := fun V hV => rhangs_any (he.later hV.bel) hval (hF.later hV.bel) hL
      have HRT : Hid (∀ V, BxAt w V m ao ca es f s → Calls Try.prog 33 #[.agg #[.int .i64 (m : Int), .slice ao es.length ca], f.val s] V (BoolPost (Df.Rooted m s) V)) := fun V hV => rrooted_any (hF.later hV.bel) hL
      have HRO : Hid ((Df.Once m s m ∧ ∃ q, Df.side m es s m = some q) → Df.Hang m es s → Df.Rooted m s) := fun h1 h2 => Df.rooted_of hval h1.1 h2 h1.2
      have HOR : Hid (Df.Hang m es s → ∀ V, BxAt w V m ao ca es f s → Calls Try.prog 34 #[.agg #[.int .i64 (m : Int), .slice ao es.length ca], f.val s] V (BoolPost (Df.Once m s m ∧ ∃ q, Df.side m es s m = some q) V)) := fun hh V hV => rordered_any (he.later hV.bel) hval (hF.later hV.bel) hL hh
      have HLD : Hid (Df.Hang m es s → Df.Rooted m s → (Df.Once m s m ∧ ∃ q, Df.side m es s m = some q) → ∀ V, BxAt w V m ao ca es f s → Calls Try.prog 35 #[.agg #[.int .i64 (m : Int), .slice ao es.length ca], f.val s] V (BoolPost (∀ e, e < es.length → Df.Edge1 es s e) V)) := fun hh hr ho V hV => rleads_any (he.later hV.bel) hval (hF.later hV.bel) hL hh hr ho.1 ho.2
      obtain ⟨l1, l2, l3, l4⟩ := hL
      obtain ⟨a1, a2, a3, a4, c1, c2, c3, c4⟩ := f
      unfold For.val at HHG HRT HOR HLD ⊢
      unfold bxw at hW
      dsimp only at hW HHG HRT HOR HLD HC0 ⊢
      rw [l1, l2, l3, l4] at hW HHG HRT HOR HLD HC0 ⊢
      have HC := HC0
      have HW := Nu.hid hW
      obtain ⟨z00, z01, z02, z03, z04, z05⟩ := HC.out _ hbx
      have HQ0 := HBX
      rw [hW] at z00 z01 z02 z03 z04 z05
      clear hF hW hbx he hrv hvf HC0 hval e0 fargs
      by_cases hh : Df.Hang m es s
      · have H1 : Hid (∀ V, BxAt w V m ao ca es ⟨a1, a2, a3, a4, c1, c2, c3, c4⟩ s → Calls Try.prog 32 #[.agg #[.int .i64 (m : Int), .slice ao es.length ca], .agg #[.slice a1 m c1, .slice a2 m c2, .slice a3 m c3, .slice a4 es.length c4]] V fun e w' => e = .returned (.bool true) ∧ Below V.heap.size V w') := fun V hV => BoolPost.yes (HHG.out V hV) hh
        by_cases hr : Df.Rooted m s
        · have H2 : Hid (∀ V, BxAt w V m ao ca es ⟨a1, a2, a3, a4, c1, c2, c3, c4⟩ s → Calls Try.prog 33 #[.agg #[.int .i64 (m : Int), .slice ao es.length ca], .agg #[.slice a1 m c1, .slice a2 m c2, .slice a3 m c3, .slice a4 es.length c4]] V fun e w' => e = .returned (.bool true) ∧ Below V.heap.size V w') := fun V hV => BoolPost.yes (HRT.out V hV) hr
          by_cases ho : Df.Once m s m ∧ ∃ q, Df.side m es s m = some q
          · have H3 : Hid (∀ V, BxAt w V m ao ca es ⟨a1, a2, a3, a4, c1, c2, c3, c4⟩ s → Calls Try.prog 34 #[.agg #[.int .i64 (m : Int), .slice ao es.length ca], .agg #[.slice a1 m c1, .slice a2 m c2, .slice a3 m c3, .slice a4 es.length c4]] V fun e w' => e = .returned (.bool true) ∧ Below V.heap.size V w') := fun V hV => BoolPost.yes (HOR.out hh V hV) ho
            by_cases hd : ∀ e, e < es.length → Df.Edge1 es s e
            · have H4 : Hid (∀ V, BxAt w V m ao ca es ⟨a1, a2, a3, a4, c1, c2, c3, c4⟩ s → Calls Try.prog 35 #[.agg #[.int .i64 (m : Int), .slice ao es.length ca], .agg #[.slice a1 m c1, .slice a2 m c2, .slice a3 m c3, .slice a4 es.length c4]] V fun e w' => e = .returned (.bool true) ∧ Below V.heap.size V w') := fun V hV => BoolPost.yes (HLD.out hh hr ho V hV) hd
              have HYES : Hid (Df.VF m es s) := HVF.out.2 ⟨hh, ho, hd⟩
              clear hh hr ho hd HHG HRT HOR HLD
              go_enter Try.func19, Try.ntmps19
              go_wp2_with (first | (go_at_call 11; rw [← HW.out]; refine HRV.out.mono ?_; rintro e V1 ⟨rfl, hv1⟩; have hq1 := HQ0.out.later hv1; have HQ1 := Nu.hid hq1; obtain ⟨z10, z11, z12, z13, z14, z15⟩ := HC.out _ hq1; clear hv1 hq1) | (go_at_call 32; refine (H1.out _ HQ1.out).mono ?_; rintro e V2 ⟨rfl, hv2⟩; have hq2 := HQ1.out.later hv2; have HQ2 := Nu.hid hq2; obtain ⟨z20, z21, z22, z23, z24, z25⟩ := HC.out _ hq2; clear hv2 hq2) | (go_at_call 33; refine (H2.out _ HQ2.out).mono ?_; rintro e V3 ⟨rfl, hv3⟩; have hq3 := HQ2.out.later hv3; have HQ3 := Nu.hid hq3; obtain ⟨z30, z31, z32, z33, z34, z35⟩ := HC.out _ hq3; clear hv3 hq3) | (go_at_call 34; refine (H3.out _ HQ3.out).mono ?_; rintro e V4 ⟨rfl, hv4⟩; have hq4 := HQ3.out.later hv4; have HQ4 := Nu.hid hq4; obtain ⟨z40, z41, z42, z43, z44, z45⟩ := HC.out _ hq4; clear hv4 hq4) | (go_at_call 35; refine (H4.out _ HQ4.out).mono ?_; rintro e V5 ⟨rfl, hv5⟩; have hq5 := HQ4.out.later hv5; have HQ5 := Nu.hid hq5; obtain ⟨z50, z51, z52, z53, z54, z55⟩ := HC.out _ hq5; clear hv5 hq5))
              go_ret
              exact ⟨true, rfl, ⟨fun _ => HYES.out, fun _ => rfl⟩, HQ5.out.bel⟩

            · have H4 : Hid (∀ V, BxAt w V m ao ca es ⟨a1, a2, a3, a4, c1, c2, c3, c4⟩ s → Calls Try.prog 35 #[.agg #[.int .i64 (m : Int), .slice ao es.length ca], .agg #[.slice a1 m c1, .slice a2 m c2, .slice a3 m c3, .slice a4 es.length c4]] V fun e w' => e = .returned (.bool false) ∧ Below V.heap.size V w') := fun V hV => BoolPost.no (HLD.out hh hr ho V hV) hd
              have HNO : Hid (¬ Df.VF m es s) := fun h => hd (HVF.out.1 h).2.2
              clear hh hr ho hd HHG HRT HOR HLD
              go_enter Try.func19, Try.ntmps19
              go_wp2_with (first | (go_at_call 11; rw [← HW.out]; refine HRV.out.mono ?_; rintro e V1 ⟨rfl, hv1⟩; have hq1 := HQ0.out.later hv1; have HQ1 := Nu.hid hq1; obtain ⟨z10, z11, z12, z13, z14, z15⟩ := HC.out _ hq1; clear hv1 hq1) | (go_at_call 32; refine (H1.out _ HQ1.out).mono ?_; rintro e V2 ⟨rfl, hv2⟩; have hq2 := HQ1.out.later hv2; have HQ2 := Nu.hid hq2; obtain ⟨z20, z21, z22, z23, z24, z25⟩ := HC.out _ hq2; clear hv2 hq2) | (go_at_call 33; refine (H2.out _ HQ2.out).mono ?_; rintro e V3 ⟨rfl, hv3⟩; have hq3 := HQ2.out.later hv3; have HQ3 := Nu.hid hq3; obtain ⟨z30, z31, z32, z33, z34, z35⟩ := HC.out _ hq3; clear hv3 hq3) | (go_at_call 34; refine (H3.out _ HQ3.out).mono ?_; rintro e V4 ⟨rfl, hv4⟩; have hq4 := HQ3.out.later hv4; have HQ4 := Nu.hid hq4; obtain ⟨z40, z41, z42, z43, z44, z45⟩ := HC.out _ hq4; clear hv4 hq4) | (go_at_call 35; refine (H4.out _ HQ4.out).mono ?_; rintro e V5 ⟨rfl, hv5⟩; have hq5 := HQ4.out.later hv5; have HQ5 := Nu.hid hq5; obtain ⟨z50, z51, z52, z53, z54, z55⟩ := HC.out _ hq5; clear hv5 hq5))
              go_ret
              exact ⟨false, rfl, ⟨fun h => (by cases h), fun h => absurd h HNO.out⟩, HQ5.out.bel⟩

          · have H3 : Hid (∀ V, BxAt w V m ao ca es ⟨a1, a2, a3, a4, c1, c2, c3, c4⟩ s → Calls Try.prog 34 #[.agg #[.int .i64 (m : Int), .slice ao es.length ca], .agg #[.slice a1 m c1, .slice a2 m c2, .slice a3 m c3, .slice a4 es.length c4]] V fun e w' => e = .returned (.bool false) ∧ Below V.heap.size V w') := fun V hV => BoolPost.no (HOR.out hh V hV) ho
            have HNO : Hid (¬ Df.VF m es s) := fun h => ho (HVF.out.1 h).2.1
            clear hh hr ho HHG HRT HOR HLD
            go_enter Try.func19, Try.ntmps19
            go_wp2_with (first | (go_at_call 11; rw [← HW.out]; refine HRV.out.mono ?_; rintro e V1 ⟨rfl, hv1⟩; have hq1 := HQ0.out.later hv1; have HQ1 := Nu.hid hq1; obtain ⟨z10, z11, z12, z13, z14, z15⟩ := HC.out _ hq1; clear hv1 hq1) | (go_at_call 32; refine (H1.out _ HQ1.out).mono ?_; rintro e V2 ⟨rfl, hv2⟩; have hq2 := HQ1.out.later hv2; have HQ2 := Nu.hid hq2; obtain ⟨z20, z21, z22, z23, z24, z25⟩ := HC.out _ hq2; clear hv2 hq2) | (go_at_call 33; refine (H2.out _ HQ2.out).mono ?_; rintro e V3 ⟨rfl, hv3⟩; have hq3 := HQ2.out.later hv3; have HQ3 := Nu.hid hq3; obtain ⟨z30, z31, z32, z33, z34, z35⟩ := HC.out _ hq3; clear hv3 hq3) | (go_at_call 34; refine (H3.out _ HQ3.out).mono ?_; rintro e V4 ⟨rfl, hv4⟩; have hq4 := HQ3.out.later hv4; have HQ4 := Nu.hid hq4; obtain ⟨z40, z41, z42, z43, z44, z45⟩ := HC.out _ hq4; clear hv4 hq4))
            go_ret
            exact ⟨false, rfl, ⟨fun h => (by cases h), fun h => absurd h HNO.out⟩, HQ4.out.bel⟩

        · have H2 : Hid (∀ V, BxAt w V m ao ca es ⟨a1, a2, a3, a4, c1, c2, c3, c4⟩ s → Calls Try.prog 33 #[.agg #[.int .i64 (m : Int), .slice ao es.length ca], .agg #[.slice a1 m c1, .slice a2 m c2, .slice a3 m c3, .slice a4 es.length c4]] V fun e w' => e = .returned (.bool false) ∧ Below V.heap.size V w') := fun V hV => BoolPost.no (HRT.out V hV) hr
          have HNO : Hid (¬ Df.VF m es s) := fun h => hr (HRO.out (HVF.out.1 h).2.1 hh)
          clear hh hr HHG HRT HOR HLD
          go_enter Try.func19, Try.ntmps19
          go_wp2_with (first | (go_at_call 11; rw [← HW.out]; refine HRV.out.mono ?_; rintro e V1 ⟨rfl, hv1⟩; have hq1 := HQ0.out.later hv1; have HQ1 := Nu.hid hq1; obtain ⟨z10, z11, z12, z13, z14, z15⟩ := HC.out _ hq1; clear hv1 hq1) | (go_at_call 32; refine (H1.out _ HQ1.out).mono ?_; rintro e V2 ⟨rfl, hv2⟩; have hq2 := HQ1.out.later hv2; have HQ2 := Nu.hid hq2; obtain ⟨z20, z21, z22, z23, z24, z25⟩ := HC.out _ hq2; clear hv2 hq2) | (go_at_call 33; refine (H2.out _ HQ2.out).mono ?_; rintro e V3 ⟨rfl, hv3⟩; have hq3 := HQ2.out.later hv3; have HQ3 := Nu.hid hq3; obtain ⟨z30, z31, z32, z33, z34, z35⟩ := HC.out _ hq3; clear hv3 hq3))
          go_ret
          exact ⟨false, rfl, ⟨fun h => (by cases h), fun h => absurd h HNO.out⟩, HQ3.out.bel⟩

      · have H1 : Hid (∀ V, BxAt w V m ao ca es ⟨a1, a2, a3, a4, c1, c2, c3, c4⟩ s → Calls Try.prog 32 #[.agg #[.int .i64 (m : Int), .slice ao es.length ca], .agg #[.slice a1 m c1, .slice a2 m c2, .slice a3 m c3, .slice a4 es.length c4]] V fun e w' => e = .returned (.bool false) ∧ Below V.heap.size V w') := fun V hV => BoolPost.no (HHG.out V hV) hh
        have HNO : Hid (¬ Df.VF m es s) := fun h => hh (HVF.out.1 h).1
        clear hh HHG HRT HOR HLD
        go_enter Try.func19, Try.ntmps19
        go_wp2_with (first | (go_at_call 11; rw [← HW.out]; refine HRV.out.mono ?_; rintro e V1 ⟨rfl, hv1⟩; have hq1 := HQ0.out.later hv1; have HQ1 := Nu.hid hq1; obtain ⟨z10, z11, z12, z13, z14, z15⟩ := HC.out _ hq1; clear hv1 hq1) | (go_at_call 32; refine (H1.out _ HQ1.out).mono ?_; rintro e V2 ⟨rfl, hv2⟩; have hq2 := HQ1.out.later hv2; have HQ2 := Nu.hid hq2; obtain ⟨z20, z21, z22, z23, z24, z25⟩ := HC.out _ hq2; clear hv2 hq2))
        go_ret
        exact ⟨false, rfl, ⟨fun h => (by cases h), fun h => absurd h HNO.out⟩, HQ2.out.bel⟩

    · have HNO : Hid (¬ Df.VF m es s) := fun h => hL h.lens
      obtain ⟨a1, a2, a3, a4, c1, c2, c3, c4⟩ := f
      unfold For.val
      unfold bxw at hW
      dsimp only at hW HC0 ⊢
      have HC := HC0
      have HW := Nu.hid hW
      obtain ⟨z00, z01, z02, z03, z04, z05⟩ := HC.out _ hbx
      have HQ0 := HBX
      rw [hW] at z00 z01 z02 z03 z04 z05
      clear hF hW hbx he hrv hvf HC0 hval e0
      unfold Df.Lens at hL
      obtain ⟨p1, h1⟩ : ∃ p, s.par.length = p := ⟨_, rfl⟩
      obtain ⟨p2, h2⟩ : ∃ p, s.hei.length = p := ⟨_, rfl⟩
      obtain ⟨p3, h3⟩ : ∃ p, s.ord.length = p := ⟨_, rfl⟩
      obtain ⟨p4, h4⟩ : ∃ p, s.ori.length = p := ⟨_, rfl⟩
      rw [h1, h2, h3, h4] at hL HC HW z02 z03 z04 z05 ⊢
      clear h1 h2 h3 h4
      by_cases g1 : p1 = m
      · by_cases g2 : p2 = m
        · by_cases g3 : p3 = m
          · have g4 : p4 ≠ es.length := fun h => hL ⟨g1, g2, g3, h⟩
            have t1 : ((p1 : Int) != (m : Int)) = false := by simp [g1]
            have t2 : ((p2 : Int) != (m : Int)) = false := by simp [g2]
            have t3 : ((p3 : Int) != (m : Int)) = false := by simp [g3]
            have t4 : ((p4 : Int) != (es.length : Int)) = true := by simp; omega
            clear hL g1 g2 g3 g4
            go_enter Try.func19, Try.ntmps19
            go_wp2_with (go_at_call 11; rw [← HW.out]; refine HRV.out.mono ?_; rintro e V1 ⟨rfl, hv1⟩; have hq1 := HQ0.out.later hv1; have HQ1 := Nu.hid hq1; obtain ⟨z10, z11, z12, z13, z14, z15⟩ := HC.out _ hq1; clear hv1 hq1)
            go_ret
            exact ⟨false, rfl, ⟨fun h => (by cases h), fun h => absurd h HNO.out⟩, HQ1.out.bel⟩
          · have t1 : ((p1 : Int) != (m : Int)) = false := by simp [g1]
            have t2 : ((p2 : Int) != (m : Int)) = false := by simp [g2]
            have t3 : ((p3 : Int) != (m : Int)) = true := by simp; omega
            clear hL g1 g2 g3
            go_enter Try.func19, Try.ntmps19
            go_wp2_with (go_at_call 11; rw [← HW.out]; refine HRV.out.mono ?_; rintro e V1 ⟨rfl, hv1⟩; have hq1 := HQ0.out.later hv1; have HQ1 := Nu.hid hq1; obtain ⟨z10, z11, z12, z13, z14, z15⟩ := HC.out _ hq1; clear hv1 hq1)
            go_ret
            exact ⟨false, rfl, ⟨fun h => (by cases h), fun h => absurd h HNO.out⟩, HQ1.out.bel⟩
        · have t1 : ((p1 : Int) != (m : Int)) = false := by simp [g1]
          have t2 : ((p2 : Int) != (m : Int)) = true := by simp; omega
          clear hL g1 g2
          go_enter Try.func19, Try.ntmps19
          go_wp2_with (go_at_call 11; rw [← HW.out]; refine HRV.out.mono ?_; rintro e V1 ⟨rfl, hv1⟩; have hq1 := HQ0.out.later hv1; have HQ1 := Nu.hid hq1; obtain ⟨z10, z11, z12, z13, z14, z15⟩ := HC.out _ hq1; clear hv1 hq1)
          go_ret
          exact ⟨false, rfl, ⟨fun h => (by cases h), fun h => absurd h HNO.out⟩, HQ1.out.bel⟩
      · have t1 : ((p1 : Int) != (m : Int)) = true := by simp; omega
        clear hL g1
        go_enter Try.func19, Try.ntmps19
        go_wp2_with (go_at_call 11; rw [← HW.out]; refine HRV.out.mono ?_; rintro e V1 ⟨rfl, hv1⟩; have hq1 := HQ0.out.later hv1; have HQ1 := Nu.hid hq1; obtain ⟨z10, z11, z12, z13, z14, z15⟩ := HC.out _ hq1; clear hv1 hq1)
        go_ret
        exact ⟨false, rfl, ⟨fun h => (by cases h), fun h => absurd h HNO.out⟩, HQ1.out.bel⟩
  · have HNO : Hid (¬ IsVF n es s) := fun ⟨m, e, h, _⟩ => hval (by rw [e]; exact h)
    obtain ⟨a1, a2, a3, a4, c1, c2, c3, c4⟩ := f
    obtain ⟨W, hW⟩ : ∃ W, W = (w.alloc (.cells #[.int .i64 n, .slice ao es.length ca] 24)).alloc (.cells #[.slice a1 s.par.length c1, .slice a2 s.hei.length c2, .slice a3 s.ord.length c3, .slice a4 s.ori.length c4] 28) := ⟨_, rfl⟩
    have hB0 : Below w.heap.size w W := by rw [hW]; exact ((Below.refl _ _).alloc (Nat.le_refl _) _).alloc (by simp) _
    have g1 : W.heap[w.heap.size]? = some (.cells #[.int .i64 n, .slice ao es.length ca] 24 (0, 0)) := by
      rw [hW, Below.heap_alloc _ _ _ (by simp)]
      exact heap_alloc_new w _
    have hrv := r4valid_any n ao ca es W (he.later hB0) hl
    have e0 : Si.valid n es = false := by unfold Si.valid; simp [hval]
    rw [e0] at hrv
    unfold graphVal at hrv ⊢
    unfold For.val
    dsimp only
    have HRV := Nu.hid hrv
    have HB0 := Nu.hid hB0
    have HW := Nu.hid hW
    obtain ⟨x0, x1, -⟩ := pair_cells g1
    rw [hW] at x0 x1
    clear hrv hB0 g1 he hW hF hval e0
    go_enter Try.func19, Try.ntmps19
    go_wp2_with (go_at_call 11; rw [← HW.out]; refine HRV.out.mono ?_; rintro e V1 ⟨rfl, hv1⟩; have HB1 := Nu.hid hv1; clear hv1)
    go_ret
    exact ⟨false, rfl, ⟨fun h => (by cases h), fun h => absurd h HNO.out⟩, HB0.out.trans (HB1.out.mono HB0.out.size)⟩
end

end Go.Proofs.Ytponmjipbcmlhaa
