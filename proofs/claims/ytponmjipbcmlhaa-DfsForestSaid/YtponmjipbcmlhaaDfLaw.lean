/-
  The statements' own walk: of a graph that is handed in as a copy.
-/
import Derived.Test.YtponmjipbcmlhaaDfWalk
import Derived.Test.YtponmjipbcmlhaaCsRef
import Derived.Test.YtponmjipbcmlhaaSiGin
namespace Go.Proofs.Ytponmjipbcmlhaa
open Go.RowKit Go.Sort

set_option maxRecDepth 100000 in
set_option maxHeartbeats 8000000 in
theorem lwalk_any (n : Int) (ao : Option Addr) (ca : Nat) (es : List (Int × Int)) (w : World) (he : EdgesAt w ao es) (hn : ao = none → ca = 0) (hl : es.length * 16 ≤ 140737488355328) :
    Calls Try.prog 10 #[.agg #[.int .i64 n, .slice ao es.length ca]] w (WalkPost n es w) := by
  obtain ⟨W, hW⟩ : ∃ W, W = (w.alloc (.cells #[.int .i64 n, .slice ao es.length ca] 24)).alloc (.cells #[.slice none 0 0, .slice none 0 0, .slice none 0 0, .slice none 0 0] 28) := ⟨_, rfl⟩
  have hB0 : Below w.heap.size w W := by rw [hW]; exact ((Below.refl _ _).alloc (Nat.le_refl _) _).alloc (by simp) _
  have hsz : W.heap.size = w.heap.size + 2 := by rw [hW]; simp
  have g1 : W.heap[w.heap.size]? = some (.cells #[.int .i64 n, .slice ao es.length ca] 24 (0, 0)) := by
    rw [hW, Below.heap_alloc _ _ _ (by simp)]
    exact heap_alloc_new w _
  have g2 : W.heap[w.heap.size + 1]? = some (.cells #[.slice none 0 0, .slice none 0 0, .slice none 0 0, .slice none 0 0] 28 (0, 0)) := by
    rw [hW]
    exact alloc_at (by simp)
  have hcp := r4copy_any n ao ca es W (he.later hB0) hn hl
  unfold graphVal at hcp
  have HCP := Nu.hid hcp
  have HWK : Hid (∀ V gb c, OwnE V W.heap.size (.slice (some ⟨gb, 0, none⟩) es.length c) es → Calls Try.prog 22 #[.agg #[.int .i64 n, .slice (some ⟨gb, 0, none⟩) es.length c]] V (WalkPost n es V)) := fun V gb c h => by
    obtain ⟨ao', cap', e, _, _, hat, _⟩ := h.form
    cases e
    exact dwalk_any n _ c es V hat (by omega)
  obtain ⟨x0, x1, -⟩ := pair_cells g1
  rw [hW] at x0 x1
  have HB0 := Nu.hid hB0
  have HG2 := Nu.hid g2
  have HWW := Nu.hid hW
  clear he hn hB0 g1 g2 hW hcp
  go_enter Try.func10, Try.ntmps10
  go_wp2_with (go_at_call 15; rw [← HWW.out]; refine HCP.out.mono ?_; rintro e w1 ⟨gb, c, rfl, how, hb1⟩; refine Hid.out ?_)
  refine Nu.hid ?_
  have HW1 := Nu.hid (HWK.out w1 gb c how)
  have k1 := (hb1.block (w.heap.size + 1) (by omega)).trans HG2.out
  have HB1 := Nu.hid (HB0.out.trans (hb1.mono HB0.out.size))
  have hs1 := hb1.size
  have HK1 := Nu.hid k1
  clear how hb1 k1 x0 x1 HCP HWK
  go_wp2_with (go_at_call 22; refine HW1.out.mono ?_; rintro e w2 ⟨v1, v2, v3, v4, s, z, rfl, hown, hcase, hb2⟩; refine Hid.out ?_)
  refine Nu.hid ?_
  obtain ⟨a1, c1, rfl, _, _⟩ := hown.o1.form
  obtain ⟨a2, c2, rfl, _, _⟩ := hown.o2.form
  obtain ⟨a3, c3, rfl, _, _⟩ := hown.o3.form
  obtain ⟨a4, c4, rfl, _, _⟩ := hown.o4.form
  have k2 := (hb2.block (w.heap.size + 1) (by omega)).trans HK1.out
  have hs2 := hb2.size
  -- the box that the answer lies in
  obtain ⟨w3, hw3⟩ : ∃ w3, w3 = w2.alloc (.cells #[.slice a1 s.par.length c1, .slice a2 s.hei.length c2, .slice a3 s.ord.length c3, .slice a4 s.ori.length c4] 28) := ⟨_, rfl⟩
  have hb3 : Below w2.heap.size w2 w3 := by rw [hw3]; exact (Below.refl _ _).alloc (Nat.le_refl _) _
  have g3 : w3.heap[w2.heap.size]? = some (.cells #[.slice a1 s.par.length c1, .slice a2 s.hei.length c2, .slice a3 s.ord.length c3, .slice a4 s.ori.length c4] 28 (0, 0)) := by rw [hw3]; exact heap_alloc_new w2 _
  have k3 := (hb3.block (w.heap.size + 1) (by omega)).trans k2
  obtain ⟨q0, q1, q2, q3, -⟩ := four_cells g3
  obtain ⟨r0, r1, r2, r3, rf⟩ := four_cells k3
  obtain ⟨R0, R1, R2, R3, -⟩ := four_cells (put4_heap k3 (.slice a1 s.par.length c1) (.slice a2 s.hei.length c2) (.slice a3 s.ord.length c3) (.slice a4 s.ori.length c4))
  have hoz := (hown.later hb3).same (w' := put4 w3 (w.heap.size + 1) (.slice a1 s.par.length c1) (.slice a2 s.hei.length c2) (.slice a3 s.ord.length c3) (.slice a4 s.ori.length c4)) fun g hg _ => put4_other (by omega) _ _ _ _
  have hbz := below_put4 (HB1.out.trans ((hb2.trans (hb3.mono hs2)).mono HB1.out.size)) (R := w.heap.size + 1) (by omega) (.slice a1 s.par.length c1) (.slice a2 s.hei.length c2) (.slice a3 s.ord.length c3) (.slice a4 s.ori.length c4)
  have H0 := Nu.hid R0
  have H1 := Nu.hid R1
  have H2 := Nu.hid R2
  have H3 := Nu.hid R3
  have HOZ := Nu.hid (hoz.lower HB1.out.size)
  have HBZ := Nu.hid hbz
  have HCASE := Nu.hid hcase
  have HW3 := Nu.hid hw3
  unfold put4 at H0 H1 H2 H3 HOZ HBZ
  rw [hw3] at q0 q1 q2 q3 r0 r1 r2 r3 rf H0 H1 H2 H3 HOZ HBZ
  clear hown hcase hb2 k2 hb3 g3 k3 hoz hbz R0 R1 R2 R3 hw3 HK1 HG2
  go_wp2
  refine bodyPost_ret (v := .tuple #[.agg #[.slice a1 s.par.length c1, .slice a2 s.hei.length c2, .slice a3 s.ord.length c3, .slice a4 s.ori.length c4], .int .i64 z]) (by simp [results, Try.results10, go_sem, H0.out, H1.out, H2.out, H3.out]) rfl ?_
  exact ⟨_, _, _, _, s, z, rfl, HOZ.out, HCASE.out, HBZ.out⟩

end Go.Proofs.Ytponmjipbcmlhaa
