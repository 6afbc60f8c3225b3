/-
  Proved: for every graph, forest and two numbers the law DfsAbove answers true, and all reads afterwards as before. No condition.
-/
import Derived.Test.YtponmjipbcmlhaaDfTwo
import Derived.Test.YtponmjipbcmlhaaDfAbv
import Derived.Test.YtponmjipbcmlhaaDfAwake
import Derived.Test.YtponmjipbcmlhaaDfAsk
import Derived.Deep.RegionHeld3
namespace Go.Proofs.Ytponmjipbcmlhaa
open Go.ChangeShapes Go.WideShapes Go.ChangeAt Go.RowKit
namespace lawDAbove

set_option maxRecDepth 100000 in
set_option maxHeartbeats 16000000 in
theorem walk (n : Int) (ao : Option Addr) (ca : Nat) (es : List (Int × Int)) (f : For) (s : Df.St) (x y : Int) (w : World) (hq : PairsIn w ao es.length ca es) (hl : es.length * 16 ≤ 140737488351232) (hF : LstF w f s) (_hI : In64F s) :
    Calls Try.prog 7 #[.agg #[.int .i64 n, .slice ao es.length ca, .slice f.a1 s.par.length f.c1, .slice f.a2 s.hei.length f.c2, .slice f.a3 s.ord.length f.c3, .slice f.a4 s.ori.length f.c4, .int .i64 x, .int .i64 y]] w fun e w' => e = .returned (.bool true) ∧ Below w.heap.size w w' := by
  obtain ⟨a1, a2, a3, a4, c1, c2, c3, c4⟩ := f
  dsimp only
  obtain ⟨W, hW⟩ : ∃ W, W = w.alloc (.cells #[.int .i64 n, .slice ao es.length ca, .slice a1 s.par.length c1, .slice a2 s.hei.length c2, .slice a3 s.ord.length c3, .slice a4 s.ori.length c4, .int .i64 x, .int .i64 y] 42) := ⟨_, rfl⟩
  have hB0 : Below w.heap.size w W := by rw [hW]; exact (Below.refl _ _).alloc (Nat.le_refl _) _
  have g1 : W.heap[w.heap.size]? = some (.cells #[.int .i64 n, .slice ao es.length ca, .slice a1 s.par.length c1, .slice a2 s.hei.length c2, .slice a3 s.ord.length c3, .slice a4 s.ori.length c4, .int .i64 x, .int .i64 y] 42 (0, 0)) := by rw [hW]; exact heap_alloc_new w _
  have lt1 := lt_of_block g1
  have hat := hq.hat.later hB0
  have HFW := Nu.hid (hF.later hB0)
  have HBOX : Hid (∀ V, Below W.heap.size W V → V.cell? ⟨w.heap.size, 0, none⟩ = some (.int .i64 n) ∧ V.cell? ⟨w.heap.size, 1, none⟩ = some (.slice ao es.length ca) ∧ V.cell? ⟨w.heap.size, 2, none⟩ = some (.slice a1 s.par.length c1) ∧ V.cell? ⟨w.heap.size, 3, none⟩ = some (.slice a2 s.hei.length c2) ∧ V.cell? ⟨w.heap.size, 4, none⟩ = some (.slice a3 s.ord.length c3) ∧ V.cell? ⟨w.heap.size, 5, none⟩ = some (.slice a4 s.ori.length c4) ∧ V.cell? ⟨w.heap.size, 6, none⟩ = some (.int .i64 x) ∧ V.cell? ⟨w.heap.size, 7, none⟩ = some (.int .i64 y)) := fun V hV => by
    have k := (hV.block w.heap.size lt1).trans g1
    refine ⟨?_, ?_, ?_, ?_, ?_, ?_, ?_, ?_⟩ <;> simp [World.cell?, k]
  have HCG : Hid (∀ V, Below W.heap.size W V → Calls Try.prog 15 #[.agg #[.int .i64 n, .slice ao es.length ca]] V fun e V' => ∃ gb c, e = .returned (.agg #[.int .i64 n, .slice (some ⟨gb, 0, none⟩) es.length c]) ∧ EdgesAt V' (some ⟨gb, 0, none⟩) es ∧ Below V.heap.size V V') := fun V hV => copyG_at n ao ca es V (hat.later hV) (fun h => (hq.hnil h).2) (by omega)
  have HCF : Hid (∀ V, Below W.heap.size W V → Calls Try.prog 16 #[.agg #[.slice a1 s.par.length c1, .slice a2 s.hei.length c2, .slice a3 s.ord.length c3, .slice a4 s.ori.length c4]] V fun e V' => ∃ a1 a2 a3 a4 c1 c2 c3 c4, e = .returned (.agg #[.slice a1 s.par.length c1, .slice a2 s.hei.length c2, .slice a3 s.ord.length c3, .slice a4 s.ori.length c4]) ∧ LstF V' ⟨a1, a2, a3, a4, c1, c2, c3, c4⟩ s ∧ Below V.heap.size V V') := fun V hV => copyF_at ⟨a1, a2, a3, a4, c1, c2, c3, c4⟩ s V (HFW.out.later hV)
  have HDA : Hid (∀ V gb c b1 b2 b3 b4 d1 d2 d3 d4, EdgesAt V (some ⟨gb, 0, none⟩) es → LstF V ⟨b1, b2, b3, b4, d1, d2, d3, d4⟩ s → Calls Try.prog 18 #[.agg #[.int .i64 n, .slice (some ⟨gb, 0, none⟩) es.length c], .agg #[.slice b1 s.par.length d1, .slice b2 s.hei.length d2, .slice b3 s.ord.length d3, .slice b4 s.ori.length d4], .int .i64 x, .int .i64 y] V (BoolPost (AboveP n es s x y) V)) := fun V gb c b1 b2 b3 b4 d1 d2 d3 d4 h1 h2 => dabove_any n _ c es ⟨b1, b2, b3, b4, d1, d2, d3, d4⟩ s x y V h1 (by omega) h2
  have HRV : Hid (∀ V, Below W.heap.size W V → Calls Try.prog 19 #[.agg #[.int .i64 n, .slice ao es.length ca], .agg #[.slice a1 s.par.length c1, .slice a2 s.hei.length c2, .slice a3 s.ord.length c3, .slice a4 s.ori.length c4]] V (BoolPost (IsVF n es s) V)) := fun V hV => rdvalid_any n ao ca es ⟨a1, a2, a3, a4, c1, c2, c3, c4⟩ s V (hat.later hV) (by omega) (HFW.out.later hV)
  have HRA : Hid (∀ (m u v : Nat), n = (m : Int) → IsVF n es s → x = (u : Int) → y = (v : Int) → v < m → ∀ V, Below W.heap.size W V → Calls Try.prog 21 #[.agg #[.int .i64 n, .slice ao es.length ca], .agg #[.slice a1 s.par.length c1, .slice a2 s.hei.length c2, .slice a3 s.ord.length c3, .slice a4 s.ori.length c4], .int .i64 x, .int .i64 y] V (BoolPost (Df.Anc es s u v) V)) := fun m u v hm hvf hx hy hv V hV => by
    obtain ⟨m', e, hval, hVF⟩ := hvf
    obtain rfl : m = m' := by omega
    subst hm hx hy
    obtain ⟨⟨X, B⟩, hs⟩ := hVF.side
    obtain ⟨Y, hw, _, _⟩ := Df.way_of (es := es) hVF.once hs hv
    exact rabv_any (f := ⟨a1, a2, a3, a4, c1, c2, c3, c4⟩) (s := s) (n := m) (ao := ao) (ca := ca) u v (hat.later hV) hval (HFW.out.later hV) hVF.lens hVF.hang (Df.rooted_of hval hVF.once hVF.hang hVF.side) hv hw
  have HAW := Nu.hid (awake_any W)
  have HWW := Nu.hid hW
  have HB0 := Nu.hid hB0
  clear hF g1 hB0 hW hat hq
  by_cases hvf : IsVF n es s
  · have HVB : Hid (∀ V, Below W.heap.size W V → Calls Try.prog 19 #[.agg #[.int .i64 n, .slice ao es.length ca], .agg #[.slice a1 s.par.length c1, .slice a2 s.hei.length c2, .slice a3 s.ord.length c3, .slice a4 s.ori.length c4]] V fun e V' => e = .returned (.bool true) ∧ Below V.heap.size V V') := fun V hV => BoolPost.yes (HRV.out V hV) hvf
    obtain ⟨m, hm⟩ : ∃ m : Nat, n = (m : Int) := by obtain ⟨m, h, _⟩ := hvf; exact ⟨m, h⟩
    by_cases hx0 : 0 ≤ x
    · by_cases hxn : x < n
      · by_cases hy0 : 0 ≤ y
        · by_cases hyn : y < n
          · obtain ⟨u, hu⟩ : ∃ u : Nat, x = (u : Int) := ⟨x.toNat, by omega⟩
            obtain ⟨v, hv⟩ : ∃ v : Nat, y = (v : Int) := ⟨y.toNat, by omega⟩
            have hvm : v < m := by omega
            have t1 : decide (x < n) = true := by simp; omega
            have t2 : decide (y < n) = true := by simp; omega
            by_cases ha : Df.Anc es s u v
            · have HDB : Hid (∀ V gb c b1 b2 b3 b4 d1 d2 d3 d4, EdgesAt V (some ⟨gb, 0, none⟩) es → LstF V ⟨b1, b2, b3, b4, d1, d2, d3, d4⟩ s → Calls Try.prog 18 #[.agg #[.int .i64 n, .slice (some ⟨gb, 0, none⟩) es.length c], .agg #[.slice b1 s.par.length d1, .slice b2 s.hei.length d2, .slice b3 s.ord.length d3, .slice b4 s.ori.length d4], .int .i64 x, .int .i64 y] V fun e V' => e = .returned (.bool true) ∧ Below V.heap.size V V') := fun V gb c b1 b2 b3 b4 d1 d2 d3 d4 h1 h2 => BoolPost.yes (HDA.out V gb c b1 b2 b3 b4 d1 d2 d3 d4 h1 h2) ⟨hvf, u, v, hu, hv, by omega, by omega, ha⟩
              have HRB : Hid (∀ V, Below W.heap.size W V → Calls Try.prog 21 #[.agg #[.int .i64 n, .slice ao es.length ca], .agg #[.slice a1 s.par.length c1, .slice a2 s.hei.length c2, .slice a3 s.ord.length c3, .slice a4 s.ori.length c4], .int .i64 x, .int .i64 y] V fun e V' => e = .returned (.bool true) ∧ Below V.heap.size V V') := fun V hV => BoolPost.yes (HRA.out m u v hm hvf hu hv hvm V hV) ha
              have t3 : decide (0 ≤ x) = true := by simp; omega
              have t4 : decide (0 ≤ y) = true := by simp; omega
              clear HDA HRV HRA hvf hx0 hxn hy0 hyn hvm ha hm hu hv
              go_enter Try.func7, Try.ntmps7
              go_wp2_with (first | (go_at_call 9; rw [← HWW.out]; refine HAW.out.mono ?_; rintro e w1 ⟨rfl, hb1⟩; have HB1 := Nu.hid hb1; obtain ⟨x0, x1, x2, x3, x4, x5, x6, x7⟩ := HBOX.out w1 hb1; clear hb1) | (go_at_call 19; refine (HVB.out _ HB1.out).mono ?_; rintro e w2 ⟨rfl, hv2⟩; have hb2 := HB1.out.trans (hv2.mono HB1.out.size); have HB2 := Nu.hid hb2; obtain ⟨y0, y1, y2, y3, y4, y5, y6, y7⟩ := HBOX.out w2 hb2; clear hv2 hb2) | (go_at_call 21; refine (HRB.out _ HB2.out).mono ?_; rintro e w3 ⟨rfl, hv3⟩; have hb3 := HB2.out.trans (hv3.mono HB2.out.size); have HB3 := Nu.hid hb3; obtain ⟨z0, z1, z2, z3, z4, z5, z6, z7⟩ := HBOX.out w3 hb3; clear hv3 hb3))
              have hbd : Below W.heap.size W w3.drew := HB3.out.drew
              have hsz := HB3.out.size
              go_region_held3 (fun V => V.cell? ⟨w.heap.size, 0, none⟩ = some (.int .i64 n) ∧ V.cell? ⟨w.heap.size, 1, none⟩ = some (.slice ao es.length ca) ∧ V.cell? ⟨w.heap.size, 2, none⟩ = some (.slice a1 s.par.length c1) ∧ V.cell? ⟨w.heap.size, 3, none⟩ = some (.slice a2 s.hei.length c2) ∧ V.cell? ⟨w.heap.size, 4, none⟩ = some (.slice a3 s.ord.length c3) ∧ V.cell? ⟨w.heap.size, 5, none⟩ = some (.slice a4 s.ori.length c4) ∧ V.cell? ⟨w.heap.size, 6, none⟩ = some (.int .i64 x) ∧ V.cell? ⟨w.heap.size, 7, none⟩ = some (.int .i64 y))
                (exact HBOX.out _ (by first | assumption | exact hbd))
                ((first
                  | (go_at_call 15; refine (HCG.out _ (by first | assumption | exact hbd)).mono ?_; rintro e V1 ⟨gb, c, rfl, hE1, hv1⟩; have hb1 : Below W.heap.size W V1 := Below.trans (by first | assumption | exact hbd) (hv1.mono (Below.size (by first | assumption | exact hbd))))
                  | (go_at_call 16; refine (HCF.out _ (by first | assumption | exact hbd)).mono ?_; rintro e V2 ⟨b1, b2, b3, b4, d1, d2, d3, d4, rfl, hl1, hv2⟩; have hE2 : EdgesAt V2 _ es := EdgesAt.later (by assumption) hv2; have hb2 : Below W.heap.size W V2 := Below.trans (by first | assumption | exact hbd) (hv2.mono (Below.size (by first | assumption | exact hbd))))
                  | (go_at_call 18; refine (HDB.out _ _ _ _ _ _ _ _ _ _ _ (by assumption) (by assumption)).mono ?_; rintro e V3 ⟨rfl, hv3⟩; have hb3 : Below W.heap.size W V3 := Below.trans (by first | assumption | exact hbd) (hv3.mono (Below.size (by first | assumption | exact hbd))))))
              all_goals
                go_wp2
                go_ret
                exact ⟨rfl, HB0.out.trans (hb3.mono HB0.out.size)⟩
            · have HDB : Hid (∀ V gb c b1 b2 b3 b4 d1 d2 d3 d4, EdgesAt V (some ⟨gb, 0, none⟩) es → LstF V ⟨b1, b2, b3, b4, d1, d2, d3, d4⟩ s → Calls Try.prog 18 #[.agg #[.int .i64 n, .slice (some ⟨gb, 0, none⟩) es.length c], .agg #[.slice b1 s.par.length d1, .slice b2 s.hei.length d2, .slice b3 s.ord.length d3, .slice b4 s.ori.length d4], .int .i64 x, .int .i64 y] V fun e V' => e = .returned (.bool false) ∧ Below V.heap.size V V') := fun V gb c b1 b2 b3 b4 d1 d2 d3 d4 h1 h2 => BoolPost.no (HDA.out V gb c b1 b2 b3 b4 d1 d2 d3 d4 h1 h2) (by rintro ⟨_, u', v', h1, h2, h3, h4, h5⟩; obtain rfl : u = u' := (by omega); obtain rfl : v = v' := (by omega); exact ha h5)
              have HRB : Hid (∀ V, Below W.heap.size W V → Calls Try.prog 21 #[.agg #[.int .i64 n, .slice ao es.length ca], .agg #[.slice a1 s.par.length c1, .slice a2 s.hei.length c2, .slice a3 s.ord.length c3, .slice a4 s.ori.length c4], .int .i64 x, .int .i64 y] V fun e V' => e = .returned (.bool false) ∧ Below V.heap.size V V') := fun V hV => BoolPost.no (HRA.out m u v hm hvf hu hv hvm V hV) ha
              have t3 : decide (0 ≤ x) = true := by simp; omega
              have t4 : decide (0 ≤ y) = true := by simp; omega
              clear HDA HRV HRA hvf hx0 hxn hy0 hyn hvm ha hm hu hv
              go_enter Try.func7, Try.ntmps7
              go_wp2_with (first | (go_at_call 9; rw [← HWW.out]; refine HAW.out.mono ?_; rintro e w1 ⟨rfl, hb1⟩; have HB1 := Nu.hid hb1; obtain ⟨x0, x1, x2, x3, x4, x5, x6, x7⟩ := HBOX.out w1 hb1; clear hb1) | (go_at_call 19; refine (HVB.out _ HB1.out).mono ?_; rintro e w2 ⟨rfl, hv2⟩; have hb2 := HB1.out.trans (hv2.mono HB1.out.size); have HB2 := Nu.hid hb2; obtain ⟨y0, y1, y2, y3, y4, y5, y6, y7⟩ := HBOX.out w2 hb2; clear hv2 hb2) | (go_at_call 21; refine (HRB.out _ HB2.out).mono ?_; rintro e w3 ⟨rfl, hv3⟩; have hb3 := HB2.out.trans (hv3.mono HB2.out.size); have HB3 := Nu.hid hb3; obtain ⟨z0, z1, z2, z3, z4, z5, z6, z7⟩ := HBOX.out w3 hb3; clear hv3 hb3))
              have hbd : Below W.heap.size W w3.drew := HB3.out.drew
              have hsz := HB3.out.size
              go_region_held3 (fun V => V.cell? ⟨w.heap.size, 0, none⟩ = some (.int .i64 n) ∧ V.cell? ⟨w.heap.size, 1, none⟩ = some (.slice ao es.length ca) ∧ V.cell? ⟨w.heap.size, 2, none⟩ = some (.slice a1 s.par.length c1) ∧ V.cell? ⟨w.heap.size, 3, none⟩ = some (.slice a2 s.hei.length c2) ∧ V.cell? ⟨w.heap.size, 4, none⟩ = some (.slice a3 s.ord.length c3) ∧ V.cell? ⟨w.heap.size, 5, none⟩ = some (.slice a4 s.ori.length c4) ∧ V.cell? ⟨w.heap.size, 6, none⟩ = some (.int .i64 x) ∧ V.cell? ⟨w.heap.size, 7, none⟩ = some (.int .i64 y))
                (exact HBOX.out _ (by first | assumption | exact hbd))
                ((first
                  | (go_at_call 15; refine (HCG.out _ (by first | assumption | exact hbd)).mono ?_; rintro e V1 ⟨gb, c, rfl, hE1, hv1⟩; have hb1 : Below W.heap.size W V1 := Below.trans (by first | assumption | exact hbd) (hv1.mono (Below.size (by first | assumption | exact hbd))))
                  | (go_at_call 16; refine (HCF.out _ (by first | assumption | exact hbd)).mono ?_; rintro e V2 ⟨b1, b2, b3, b4, d1, d2, d3, d4, rfl, hl1, hv2⟩; have hE2 : EdgesAt V2 _ es := EdgesAt.later (by assumption) hv2; have hb2 : Below W.heap.size W V2 := Below.trans (by first | assumption | exact hbd) (hv2.mono (Below.size (by first | assumption | exact hbd))))
                  | (go_at_call 18; refine (HDB.out _ _ _ _ _ _ _ _ _ _ _ (by assumption) (by assumption)).mono ?_; rintro e V3 ⟨rfl, hv3⟩; have hb3 : Below W.heap.size W V3 := Below.trans (by first | assumption | exact hbd) (hv3.mono (Below.size (by first | assumption | exact hbd))))))
              all_goals
                go_wp2
                go_ret
                exact ⟨rfl, HB0.out.trans (hb3.mono HB0.out.size)⟩
          · have HDB : Hid (∀ V gb c b1 b2 b3 b4 d1 d2 d3 d4, EdgesAt V (some ⟨gb, 0, none⟩) es → LstF V ⟨b1, b2, b3, b4, d1, d2, d3, d4⟩ s → Calls Try.prog 18 #[.agg #[.int .i64 n, .slice (some ⟨gb, 0, none⟩) es.length c], .agg #[.slice b1 s.par.length d1, .slice b2 s.hei.length d2, .slice b3 s.ord.length d3, .slice b4 s.ori.length d4], .int .i64 x, .int .i64 y] V fun e V' => e = .returned (.bool false) ∧ Below V.heap.size V V') := fun V gb c b1 b2 b3 b4 d1 d2 d3 d4 h1 h2 => BoolPost.no (HDA.out V gb c b1 b2 b3 b4 d1 d2 d3 d4 h1 h2) (by rintro ⟨_, u, v, h1, h2, h3, h4, _⟩; omega)
            have t0 : decide (0 ≤ x) = true := by simp; omega
            have t1 : decide (x < n) = true := by simp; omega
            have t2 : decide (0 ≤ y) = true := by simp; omega
            have t3 : decide (y < n) = false := by simp; omega
            clear HDA HRV HRA hvf hx0 hxn hy0 hyn hm
            go_enter Try.func7, Try.ntmps7
            go_wp2_with (first | (go_at_call 9; rw [← HWW.out]; refine HAW.out.mono ?_; rintro e w1 ⟨rfl, hb1⟩; have HB1 := Nu.hid hb1; obtain ⟨x0, x1, x2, x3, x4, x5, x6, x7⟩ := HBOX.out w1 hb1; clear hb1) | (go_at_call 19; refine (HVB.out _ HB1.out).mono ?_; rintro e w2 ⟨rfl, hv2⟩; have hb2 := HB1.out.trans (hv2.mono HB1.out.size); have HB2 := Nu.hid hb2; obtain ⟨y0, y1, y2, y3, y4, y5, y6, y7⟩ := HBOX.out w2 hb2; clear hv2 hb2))
            have hbd : Below W.heap.size W w2.drew := HB2.out.drew
            have hsz := HB2.out.size
            go_region_held3 (fun V => V.cell? ⟨w.heap.size, 0, none⟩ = some (.int .i64 n) ∧ V.cell? ⟨w.heap.size, 1, none⟩ = some (.slice ao es.length ca) ∧ V.cell? ⟨w.heap.size, 2, none⟩ = some (.slice a1 s.par.length c1) ∧ V.cell? ⟨w.heap.size, 3, none⟩ = some (.slice a2 s.hei.length c2) ∧ V.cell? ⟨w.heap.size, 4, none⟩ = some (.slice a3 s.ord.length c3) ∧ V.cell? ⟨w.heap.size, 5, none⟩ = some (.slice a4 s.ori.length c4) ∧ V.cell? ⟨w.heap.size, 6, none⟩ = some (.int .i64 x) ∧ V.cell? ⟨w.heap.size, 7, none⟩ = some (.int .i64 y))
              (exact HBOX.out _ (by first | assumption | exact hbd))
              ((first
                | (go_at_call 15; refine (HCG.out _ (by first | assumption | exact hbd)).mono ?_; rintro e V1 ⟨gb, c, rfl, hE1, hv1⟩; have hb1 : Below W.heap.size W V1 := Below.trans (by first | assumption | exact hbd) (hv1.mono (Below.size (by first | assumption | exact hbd))))
                | (go_at_call 16; refine (HCF.out _ (by first | assumption | exact hbd)).mono ?_; rintro e V2 ⟨b1, b2, b3, b4, d1, d2, d3, d4, rfl, hl1, hv2⟩; have hE2 : EdgesAt V2 _ es := EdgesAt.later (by assumption) hv2; have hb2 : Below W.heap.size W V2 := Below.trans (by first | assumption | exact hbd) (hv2.mono (Below.size (by first | assumption | exact hbd))))
                | (go_at_call 18; refine (HDB.out _ _ _ _ _ _ _ _ _ _ _ (by assumption) (by assumption)).mono ?_; rintro e V3 ⟨rfl, hv3⟩; have hb3 : Below W.heap.size W V3 := Below.trans (by first | assumption | exact hbd) (hv3.mono (Below.size (by first | assumption | exact hbd))))))
            all_goals
              go_wp2
              go_ret
              exact ⟨rfl, HB0.out.trans (hb3.mono HB0.out.size)⟩
        · have HDB : Hid (∀ V gb c b1 b2 b3 b4 d1 d2 d3 d4, EdgesAt V (some ⟨gb, 0, none⟩) es → LstF V ⟨b1, b2, b3, b4, d1, d2, d3, d4⟩ s → Calls Try.prog 18 #[.agg #[.int .i64 n, .slice (some ⟨gb, 0, none⟩) es.length c], .agg #[.slice b1 s.par.length d1, .slice b2 s.hei.length d2, .slice b3 s.ord.length d3, .slice b4 s.ori.length d4], .int .i64 x, .int .i64 y] V fun e V' => e = .returned (.bool false) ∧ Below V.heap.size V V') := fun V gb c b1 b2 b3 b4 d1 d2 d3 d4 h1 h2 => BoolPost.no (HDA.out V gb c b1 b2 b3 b4 d1 d2 d3 d4 h1 h2) (by rintro ⟨_, u, v, h1, h2, h3, h4, _⟩; omega)
          have t0 : decide (0 ≤ x) = true := by simp; omega
          have t1 : decide (x < n) = true := by simp; omega
          have t2 : decide (0 ≤ y) = false := by simp; omega
          clear HDA HRV HRA hvf hx0 hxn hy0 hm
          go_enter Try.func7, Try.ntmps7
          go_wp2_with (first | (go_at_call 9; rw [← HWW.out]; refine HAW.out.mono ?_; rintro e w1 ⟨rfl, hb1⟩; have HB1 := Nu.hid hb1; obtain ⟨x0, x1, x2, x3, x4, x5, x6, x7⟩ := HBOX.out w1 hb1; clear hb1) | (go_at_call 19; refine (HVB.out _ HB1.out).mono ?_; rintro e w2 ⟨rfl, hv2⟩; have hb2 := HB1.out.trans (hv2.mono HB1.out.size); have HB2 := Nu.hid hb2; obtain ⟨y0, y1, y2, y3, y4, y5, y6, y7⟩ := HBOX.out w2 hb2; clear hv2 hb2))
          have hbd : Below W.heap.size W w2.drew := HB2.out.drew
          have hsz := HB2.out.size
          go_region_held3 (fun V => V.cell? ⟨w.heap.size, 0, none⟩ = some (.int .i64 n) ∧ V.cell? ⟨w.heap.size, 1, none⟩ = some (.slice ao es.length ca) ∧ V.cell? ⟨w.heap.size, 2, none⟩ = some (.slice a1 s.par.length c1) ∧ V.cell? ⟨w.heap.size, 3, none⟩ = some (.slice a2 s.hei.length c2) ∧ V.cell? ⟨w.heap.size, 4, none⟩ = some (.slice a3 s.ord.length c3) ∧ V.cell? ⟨w.heap.size, 5, none⟩ = some (.slice a4 s.ori.length c4) ∧ V.cell? ⟨w.heap.size, 6, none⟩ = some (.int .i64 x) ∧ V.cell? ⟨w.heap.size, 7, none⟩ = some (.int .i64 y))
            (exact HBOX.out _ (by first | assumption | exact hbd))
            ((first
              | (go_at_call 15; refine (HCG.out _ (by first | assumption | exact hbd)).mono ?_; rintro e V1 ⟨gb, c, rfl, hE1, hv1⟩; have hb1 : Below W.heap.size W V1 := Below.trans (by first | assumption | exact hbd) (hv1.mono (Below.size (by first | assumption | exact hbd))))
              | (go_at_call 16; refine (HCF.out _ (by first | assumption | exact hbd)).mono ?_; rintro e V2 ⟨b1, b2, b3, b4, d1, d2, d3, d4, rfl, hl1, hv2⟩; have hE2 : EdgesAt V2 _ es := EdgesAt.later (by assumption) hv2; have hb2 : Below W.heap.size W V2 := Below.trans (by first | assumption | exact hbd) (hv2.mono (Below.size (by first | assumption | exact hbd))))
              | (go_at_call 18; refine (HDB.out _ _ _ _ _ _ _ _ _ _ _ (by assumption) (by assumption)).mono ?_; rintro e V3 ⟨rfl, hv3⟩; have hb3 : Below W.heap.size W V3 := Below.trans (by first | assumption | exact hbd) (hv3.mono (Below.size (by first | assumption | exact hbd))))))
          all_goals
            go_wp2
            go_ret
            exact ⟨rfl, HB0.out.trans (hb3.mono HB0.out.size)⟩
      · have HDB : Hid (∀ V gb c b1 b2 b3 b4 d1 d2 d3 d4, EdgesAt V (some ⟨gb, 0, none⟩) es → LstF V ⟨b1, b2, b3, b4, d1, d2, d3, d4⟩ s → Calls Try.prog 18 #[.agg #[.int .i64 n, .slice (some ⟨gb, 0, none⟩) es.length c], .agg #[.slice b1 s.par.length d1, .slice b2 s.hei.length d2, .slice b3 s.ord.length d3, .slice b4 s.ori.length d4], .int .i64 x, .int .i64 y] V fun e V' => e = .returned (.bool false) ∧ Below V.heap.size V V') := fun V gb c b1 b2 b3 b4 d1 d2 d3 d4 h1 h2 => BoolPost.no (HDA.out V gb c b1 b2 b3 b4 d1 d2 d3 d4 h1 h2) (by rintro ⟨_, u, v, h1, h2, h3, h4, _⟩; omega)
        have t0 : decide (0 ≤ x) = true := by simp; omega
        have t1 : decide (x < n) = false := by simp; omega
        clear HDA HRV HRA hvf hx0 hxn hm
        go_enter Try.func7, Try.ntmps7
        go_wp2_with (first | (go_at_call 9; rw [← HWW.out]; refine HAW.out.mono ?_; rintro e w1 ⟨rfl, hb1⟩; have HB1 := Nu.hid hb1; obtain ⟨x0, x1, x2, x3, x4, x5, x6, x7⟩ := HBOX.out w1 hb1; clear hb1) | (go_at_call 19; refine (HVB.out _ HB1.out).mono ?_; rintro e w2 ⟨rfl, hv2⟩; have hb2 := HB1.out.trans (hv2.mono HB1.out.size); have HB2 := Nu.hid hb2; obtain ⟨y0, y1, y2, y3, y4, y5, y6, y7⟩ := HBOX.out w2 hb2; clear hv2 hb2))
        have hbd : Below W.heap.size W w2.drew := HB2.out.drew
        have hsz := HB2.out.size
        go_region_held3 (fun V => V.cell? ⟨w.heap.size, 0, none⟩ = some (.int .i64 n) ∧ V.cell? ⟨w.heap.size, 1, none⟩ = some (.slice ao es.length ca) ∧ V.cell? ⟨w.heap.size, 2, none⟩ = some (.slice a1 s.par.length c1) ∧ V.cell? ⟨w.heap.size, 3, none⟩ = some (.slice a2 s.hei.length c2) ∧ V.cell? ⟨w.heap.size, 4, none⟩ = some (.slice a3 s.ord.length c3) ∧ V.cell? ⟨w.heap.size, 5, none⟩ = some (.slice a4 s.ori.length c4) ∧ V.cell? ⟨w.heap.size, 6, none⟩ = some (.int .i64 x) ∧ V.cell? ⟨w.heap.size, 7, none⟩ = some (.int .i64 y))
          (exact HBOX.out _ (by first | assumption | exact hbd))
          ((first
            | (go_at_call 15; refine (HCG.out _ (by first | assumption | exact hbd)).mono ?_; rintro e V1 ⟨gb, c, rfl, hE1, hv1⟩; have hb1 : Below W.heap.size W V1 := Below.trans (by first | assumption | exact hbd) (hv1.mono (Below.size (by first | assumption | exact hbd))))
            | (go_at_call 16; refine (HCF.out _ (by first | assumption | exact hbd)).mono ?_; rintro e V2 ⟨b1, b2, b3, b4, d1, d2, d3, d4, rfl, hl1, hv2⟩; have hE2 : EdgesAt V2 _ es := EdgesAt.later (by assumption) hv2; have hb2 : Below W.heap.size W V2 := Below.trans (by first | assumption | exact hbd) (hv2.mono (Below.size (by first | assumption | exact hbd))))
            | (go_at_call 18; refine (HDB.out _ _ _ _ _ _ _ _ _ _ _ (by assumption) (by assumption)).mono ?_; rintro e V3 ⟨rfl, hv3⟩; have hb3 : Below W.heap.size W V3 := Below.trans (by first | assumption | exact hbd) (hv3.mono (Below.size (by first | assumption | exact hbd))))))
        all_goals
          go_wp2
          go_ret
          exact ⟨rfl, HB0.out.trans (hb3.mono HB0.out.size)⟩
    · have HDB : Hid (∀ V gb c b1 b2 b3 b4 d1 d2 d3 d4, EdgesAt V (some ⟨gb, 0, none⟩) es → LstF V ⟨b1, b2, b3, b4, d1, d2, d3, d4⟩ s → Calls Try.prog 18 #[.agg #[.int .i64 n, .slice (some ⟨gb, 0, none⟩) es.length c], .agg #[.slice b1 s.par.length d1, .slice b2 s.hei.length d2, .slice b3 s.ord.length d3, .slice b4 s.ori.length d4], .int .i64 x, .int .i64 y] V fun e V' => e = .returned (.bool false) ∧ Below V.heap.size V V') := fun V gb c b1 b2 b3 b4 d1 d2 d3 d4 h1 h2 => BoolPost.no (HDA.out V gb c b1 b2 b3 b4 d1 d2 d3 d4 h1 h2) (by rintro ⟨_, u, v, h1, h2, h3, h4, _⟩; omega)
      have t0 : decide (0 ≤ x) = false := by simp; omega
      clear HDA HRV HRA hvf hx0 hm
      go_enter Try.func7, Try.ntmps7
      go_wp2_with (first | (go_at_call 9; rw [← HWW.out]; refine HAW.out.mono ?_; rintro e w1 ⟨rfl, hb1⟩; have HB1 := Nu.hid hb1; obtain ⟨x0, x1, x2, x3, x4, x5, x6, x7⟩ := HBOX.out w1 hb1; clear hb1) | (go_at_call 19; refine (HVB.out _ HB1.out).mono ?_; rintro e w2 ⟨rfl, hv2⟩; have hb2 := HB1.out.trans (hv2.mono HB1.out.size); have HB2 := Nu.hid hb2; obtain ⟨y0, y1, y2, y3, y4, y5, y6, y7⟩ := HBOX.out w2 hb2; clear hv2 hb2))
      have hbd : Below W.heap.size W w2.drew := HB2.out.drew
      have hsz := HB2.out.size
      go_region_held3 (fun V => V.cell? ⟨w.heap.size, 0, none⟩ = some (.int .i64 n) ∧ V.cell? ⟨w.heap.size, 1, none⟩ = some (.slice ao es.length ca) ∧ V.cell? ⟨w.heap.size, 2, none⟩ = some (.slice a1 s.par.length c1) ∧ V.cell? ⟨w.heap.size, 3, none⟩ = some (.slice a2 s.hei.length c2) ∧ V.cell? ⟨w.heap.size, 4, none⟩ = some (.slice a3 s.ord.length c3) ∧ V.cell? ⟨w.heap.size, 5, none⟩ = some (.slice a4 s.ori.length c4) ∧ V.cell? ⟨w.heap.size, 6, none⟩ = some (.int .i64 x) ∧ V.cell? ⟨w.heap.size, 7, none⟩ = some (.int .i64 y))
        (exact HBOX.out _ (by first | assumption | exact hbd))
        ((first
          | (go_at_call 15; refine (HCG.out _ (by first | assumption | exact hbd)).mono ?_; rintro e V1 ⟨gb, c, rfl, hE1, hv1⟩; have hb1 : Below W.heap.size W V1 := Below.trans (by first | assumption | exact hbd) (hv1.mono (Below.size (by first | assumption | exact hbd))))
          | (go_at_call 16; refine (HCF.out _ (by first | assumption | exact hbd)).mono ?_; rintro e V2 ⟨b1, b2, b3, b4, d1, d2, d3, d4, rfl, hl1, hv2⟩; have hE2 : EdgesAt V2 _ es := EdgesAt.later (by assumption) hv2; have hb2 : Below W.heap.size W V2 := Below.trans (by first | assumption | exact hbd) (hv2.mono (Below.size (by first | assumption | exact hbd))))
          | (go_at_call 18; refine (HDB.out _ _ _ _ _ _ _ _ _ _ _ (by assumption) (by assumption)).mono ?_; rintro e V3 ⟨rfl, hv3⟩; have hb3 : Below W.heap.size W V3 := Below.trans (by first | assumption | exact hbd) (hv3.mono (Below.size (by first | assumption | exact hbd))))))
      all_goals
        go_wp2
        go_ret
        exact ⟨rfl, HB0.out.trans (hb3.mono HB0.out.size)⟩
  · have HVB : Hid (∀ V, Below W.heap.size W V → Calls Try.prog 19 #[.agg #[.int .i64 n, .slice ao es.length ca], .agg #[.slice a1 s.par.length c1, .slice a2 s.hei.length c2, .slice a3 s.ord.length c3, .slice a4 s.ori.length c4]] V fun e V' => e = .returned (.bool false) ∧ Below V.heap.size V V') := fun V hV => BoolPost.no (HRV.out V hV) hvf
    have HDB : Hid (∀ V gb c b1 b2 b3 b4 d1 d2 d3 d4, EdgesAt V (some ⟨gb, 0, none⟩) es → LstF V ⟨b1, b2, b3, b4, d1, d2, d3, d4⟩ s → Calls Try.prog 18 #[.agg #[.int .i64 n, .slice (some ⟨gb, 0, none⟩) es.length c], .agg #[.slice b1 s.par.length d1, .slice b2 s.hei.length d2, .slice b3 s.ord.length d3, .slice b4 s.ori.length d4], .int .i64 x, .int .i64 y] V fun e V' => e = .returned (.bool false) ∧ Below V.heap.size V V') := fun V gb c b1 b2 b3 b4 d1 d2 d3 d4 h1 h2 => BoolPost.no (HDA.out V gb c b1 b2 b3 b4 d1 d2 d3 d4 h1 h2) (fun h => hvf h.1)
    clear HDA HRV HRA hvf
    go_enter Try.func7, Try.ntmps7
    go_wp2_with (first | (go_at_call 9; rw [← HWW.out]; refine HAW.out.mono ?_; rintro e w1 ⟨rfl, hb1⟩; have HB1 := Nu.hid hb1; obtain ⟨x0, x1, x2, x3, x4, x5, x6, x7⟩ := HBOX.out w1 hb1; clear hb1) | (go_at_call 19; refine (HVB.out _ HB1.out).mono ?_; rintro e w2 ⟨rfl, hv2⟩; have hb2 := HB1.out.trans (hv2.mono HB1.out.size); have HB2 := Nu.hid hb2; obtain ⟨y0, y1, y2, y3, y4, y5, y6, y7⟩ := HBOX.out w2 hb2; clear hv2 hb2))
    have hbd : Below W.heap.size W w2.drew := HB2.out.drew
    have hsz := HB2.out.size
    go_region_held3 (fun V => V.cell? ⟨w.heap.size, 0, none⟩ = some (.int .i64 n) ∧ V.cell? ⟨w.heap.size, 1, none⟩ = some (.slice ao es.length ca) ∧ V.cell? ⟨w.heap.size, 2, none⟩ = some (.slice a1 s.par.length c1) ∧ V.cell? ⟨w.heap.size, 3, none⟩ = some (.slice a2 s.hei.length c2) ∧ V.cell? ⟨w.heap.size, 4, none⟩ = some (.slice a3 s.ord.length c3) ∧ V.cell? ⟨w.heap.size, 5, none⟩ = some (.slice a4 s.ori.length c4) ∧ V.cell? ⟨w.heap.size, 6, none⟩ = some (.int .i64 x) ∧ V.cell? ⟨w.heap.size, 7, none⟩ = some (.int .i64 y))
      (exact HBOX.out _ (by first | assumption | exact hbd))
      ((first
        | (go_at_call 15; refine (HCG.out _ (by first | assumption | exact hbd)).mono ?_; rintro e V1 ⟨gb, c, rfl, hE1, hv1⟩; have hb1 : Below W.heap.size W V1 := Below.trans (by first | assumption | exact hbd) (hv1.mono (Below.size (by first | assumption | exact hbd))))
        | (go_at_call 16; refine (HCF.out _ (by first | assumption | exact hbd)).mono ?_; rintro e V2 ⟨b1, b2, b3, b4, d1, d2, d3, d4, rfl, hl1, hv2⟩; have hE2 : EdgesAt V2 _ es := EdgesAt.later (by assumption) hv2; have hb2 : Below W.heap.size W V2 := Below.trans (by first | assumption | exact hbd) (hv2.mono (Below.size (by first | assumption | exact hbd))))
        | (go_at_call 18; refine (HDB.out _ _ _ _ _ _ _ _ _ _ _ (by assumption) (by assumption)).mono ?_; rintro e V3 ⟨rfl, hv3⟩; have hb3 : Below W.heap.size W V3 := Below.trans (by first | assumption | exact hbd) (hv3.mono (Below.size (by first | assumption | exact hbd))))))
    all_goals
      go_wp2
      go_ret
      exact ⟨rfl, HB0.out.trans (hb3.mono HB0.out.size)⟩

set_option maxRecDepth 100000 in
/-- What the walk gives, for every argument and every world. -/
theorem contract (H : Type) (enc : TypeId × Value → H) (W : World) (base : Nat) (args : Array Value) (ds gs : List (DataW H)) (before : List MemPlace)
    (hval : ∀ (j : Nat) t v, Try.f7.params[j]? = some t → args[j]? = some v → Value.okWide Try.prog W .any base t v)
    (hW : DataW.Whole enc Try.prog Try.f7.params.toList Rows.dfsAboveSpec.vars false W args.toList ds gs before)
    (hsz : (DataW.weightsEach Try.prog (Try.f7.params.toList ++ (OpenSpec.ofChange Rows.dfsAboveSpec).bare.plain.varTypes Try.prog) (ds ++ gs)).all (· ≤ reachBytes) = true)
    :
    Calls Try.prog 7 args W fun e W' => ∃ v, e = .returned v ∧ Rows.dfsAboveSpec.post enc Try.prog Try.f7 false true false false W args v W' := by
  have hW' := hW
  obtain ⟨p, q, hA0, hV, rfl, hfz, hnd⟩ := hW
  have hA : DataW.TrodAll enc Try.prog W 0 (fun _ => true) true Try.f7.params.toList args.toList ds p := hA0
  rw [Try.params7] at hA hval hsz
  obtain ⟨v0, vs0, d0, ds0, p0, q0, hargs, rfl, rfl, h0, r0⟩ := trodAll_cons hA
  obtain ⟨rfl, rfl, rfl⟩ := trodAll_nil r0
  obtain rfl : args = #[v0] := by cases args; simp_all
  obtain ⟨rfl, rfl⟩ := trodVars_none hV
  have k0 := h0
  have lt0 : ∀ x ∈ p0, x.block < W.heap.size := by obtain ⟨m, hm⟩ := k0; exact DataW.trod_lt m _ _ _ hm
  obtain ⟨n0, a0, cap0, q0, f0, s0, x0, y0, rfl, z0, w0, u0, t0⟩ := ask_of_trod (j := 0) (hval 0 42 v0 rfl rfl) h0 hsz rfl rfl
  clear hA0
  refine (walk n0 a0 cap0 q0 f0 s0 x0 y0 W z0 w0 u0 t0).mono fun e W' ⟨he, bel⟩ => ?_
  subst he
  exact ⟨_, rfl, _, _, _, [], _, [], hW', trodAll_mk1 (shut_bool Try.underlying4 _), (trodAll_cons_mk (Below.trod laidOut (by kernel_rfl) (of_decide_eq_true (by kernel_rfl)) k0 bel lt0) trodAll_mk0), rfl, bel.frame _, fun h => by cases h⟩

theorem laid_met (os : Os) : laidMet Try.prog Rows.dfsAboveRow.laid ((settled os).forCall (fun _ _ => 0) ⟨#[], #[.agg #[.int .i64 0, .slice none 0 0, .slice none 0 0, .slice none 0 0, .slice none 0 0, .slice none 0 0, .int .i64 0, .int .i64 0]], []⟩).memory :=
  laidMet_of_run' 100 (by kernel_rfl) (by kernel_rfl)
theorem reads (os : Os) {H : Type} (enc : TypeId × Value → H) : ∃ places, DataW.whole enc Try.prog ((settled os).forCall (fun _ _ => 0) ⟨#[], #[.agg #[.int .i64 0, .slice none 0 0, .slice none 0 0, .slice none 0 0, .slice none 0 0, .slice none 0 0, .int .i64 0, .int .i64 0]], []⟩).memory Try.f7.params.toList Rows.dfsAboveSpec.vars false (#[.agg #[.int .i64 0, .slice none 0 0, .slice none 0 0, .slice none 0 0, .slice none 0 0, .slice none 0 0, .int .i64 0, .int .i64 0]] : Array Value).toList 8 = some ([.agg [.agg [.lit (.int .i64 0), .nil], .agg [.nil, .nil, .nil, .nil], .lit (.int .i64 0), .lit (.int .i64 0)]], [], places) :=
  ⟨[], by kernel_rfl⟩

set_option maxRecDepth 100000 in
theorem lifted (os : Os) (started : os.Started) (H : Type) (enc : TypeId × Value → H) (F : Stop.Interp) :
    ReturnsInHanded {} Try.checked os 7 .any ((OpenSpec.ofChange Rows.dfsAboveSpec).preRow enc Try.prog Try.f7 Rows.dfsAboveRow.domain false Rows.dfsAboveRow.laid) (((OpenSpec.ofChange Rows.dfsAboveSpec).at F).post enc Try.prog Try.f7 false true false false) := by
  obtain ⟨places, hx⟩ := reads os enc
  refine returnsInHanded_of_row (C := Try.checked) (s := (OpenSpec.ofChange Rows.dfsAboveSpec)) own started (by kernel_rfl) Try.func7
    (witness_row_at (enc := enc) (C := Try.checked) false (settled os) #[.agg #[.int .i64 0, .slice none 0 0, .slice none 0 0, .slice none 0 0, .slice none 0 0, .slice none 0 0, .int .i64 0, .int .i64 0]] rfl (by kernel_rfl) (by kernel_rfl) (by kernel_rfl)
      (OpenSpec.preRow_of_cond 8 hx (by kernel_rfl) (fun k hk => by cases hk) (by kernel_rfl) (laid_met os))) ?_
  intro W base args ds gs before hval hW _ _ hsz _ _ _
  exact contract H enc W base args ds gs before hval hW hsz 

theorem said : Rows.DfsAboveSaid :=
  OpenClaim.holds_of_cond 7 Try.f7 rfl rfl rfl rfl rfl rfl rfl ⟨rfl, rfl, rfl, rfl, rfl⟩ rfl rfl rfl rfl rfl (by kernel_rfl) Try.func7 (by kernel_rfl)
    (of_decide_eq_true (by kernel_rfl)) (by unfold Func.isWrapper; first | (rw [if_pos (by decide +kernel)]; kernel_rfl) | (rw [if_neg (by decide +kernel)]; exact ⟨rfl, rfl⟩))
    (fun os started H enc _ F => by rw [OpenClaim.pre_eq_preRow]; exact lifted os started H enc F)

end lawDAbove

theorem dfsAbove_holds : Rows.DfsAboveSaid := lawDAbove.said

#print axioms dfsAbove_holds
end Go.Proofs.Ytponmjipbcmlhaa
