/-
  The document's own Same of forests; slices.Contains; Back, the program's and the document's own.
-/
import Derived.Test.YtponmjipbcmlhaaDfFor
import Derived.Test.YtponmjipbcmlhaaCsSameI
import Derived.Deep.QuietTactic
import Derived.BigQuiet
namespace Go.Proofs.Ytponmjipbcmlhaa
open Go.RowKit

theorem same_true {w : World} {ao bo : Option Addr} {n ca cb : Nat} {l : List Int} (h : Lst w ao n ca l) (h' : Lst w bo n cb l) (hn : n ≤ 17592186043904) :
    Calls Try.prog 25 #[.slice ao n ca, .slice bo n cb] w fun e w' => e = .returned (.bool true) ∧ Below w.heap.size w w' :=
  (sameints_any ao bo ca cb n n l l w h.len h'.len h.ints h'.ints (by omega)).mono (by
    rintro e w' ⟨h1, h2⟩
    rw [decide_eq_true rfl] at h1
    exact ⟨h1, h2⟩)

set_option maxRecDepth 100000 in
set_option maxHeartbeats 4000000 in
/-- Two forests with the same lists are the same. -/
theorem sameF_any (f f' : For) (s : Df.St) (w : World) (h : LstF w f s) (h' : LstF w f' s) :
    Calls Try.prog 12 #[f.val s, f'.val s] w fun e w' => e = .returned (.bool true) ∧ Below w.heap.size w w' := by
  obtain ⟨W, hW⟩ : ∃ W, W = (w.alloc (.cells #[.slice f.a1 s.par.length f.c1, .slice f.a2 s.hei.length f.c2, .slice f.a3 s.ord.length f.c3, .slice f.a4 s.ori.length f.c4] 28)).alloc (.cells #[.slice f'.a1 s.par.length f'.c1, .slice f'.a2 s.hei.length f'.c2, .slice f'.a3 s.ord.length f'.c3, .slice f'.a4 s.ori.length f'.c4] 28) := ⟨_, rfl⟩
  have hB0 : Below w.heap.size w W := by rw [hW]; exact ((Below.refl _ _).alloc (Nat.le_refl _) _).alloc (by simp) _
  have hsz : W.heap.size = w.heap.size + 2 := by rw [hW]; simp
  have g1 : W.heap[w.heap.size]? = some (.cells #[.slice f.a1 s.par.length f.c1, .slice f.a2 s.hei.length f.c2, .slice f.a3 s.ord.length f.c3, .slice f.a4 s.ori.length f.c4] 28 (0, 0)) := by
    rw [hW, Below.heap_alloc _ _ _ (by simp)]
    exact heap_alloc_new w _
  have g2 : W.heap[w.heap.size + 1]? = some (.cells #[.slice f'.a1 s.par.length f'.c1, .slice f'.a2 s.hei.length f'.c2, .slice f'.a3 s.ord.length f'.c3, .slice f'.a4 s.ori.length f'.c4] 28 (0, 0)) := by
    rw [hW]
    exact alloc_at (by simp)
  have hF := h.later hB0
  have hF' := h'.later hB0
  obtain ⟨x0, x1, x2, x3, -⟩ := four_cells g1
  obtain ⟨y0, y1, y2, y3, -⟩ := four_cells g2
  have X := Nu.hid (And.intro x0 (And.intro x1 (And.intro x2 x3)))
  have Y := Nu.hid (And.intro y0 (And.intro y1 (And.intro y2 y3)))
  have HC : Hid (∀ V, Below W.heap.size W V → (V.cell? ⟨w.heap.size, 0, none⟩ = some (.slice f.a1 s.par.length f.c1) ∧ V.cell? ⟨w.heap.size, 1, none⟩ = some (.slice f.a2 s.hei.length f.c2) ∧ V.cell? ⟨w.heap.size, 2, none⟩ = some (.slice f.a3 s.ord.length f.c3) ∧ V.cell? ⟨w.heap.size, 3, none⟩ = some (.slice f.a4 s.ori.length f.c4)) ∧ (V.cell? ⟨w.heap.size + 1, 0, none⟩ = some (.slice f'.a1 s.par.length f'.c1) ∧ V.cell? ⟨w.heap.size + 1, 1, none⟩ = some (.slice f'.a2 s.hei.length f'.c2) ∧ V.cell? ⟨w.heap.size + 1, 2, none⟩ = some (.slice f'.a3 s.ord.length f'.c3) ∧ V.cell? ⟨w.heap.size + 1, 3, none⟩ = some (.slice f'.a4 s.ori.length f'.c4))) := fun V hV => by
    have k1 := (hV.block w.heap.size (by omega)).trans g1
    have k2 := (hV.block (w.heap.size + 1) (by omega)).trans g2
    obtain ⟨x0, x1, x2, x3, -⟩ := four_cells k1
    obtain ⟨y0, y1, y2, y3, -⟩ := four_cells k2
    exact ⟨⟨x0, x1, x2, x3⟩, y0, y1, y2, y3⟩
  have H1 := Nu.hid fun V (hV : Below W.heap.size W V) => same_true (hF.l1.later hV) (hF'.l1.later hV) h.n1
  have H2 := Nu.hid fun V (hV : Below W.heap.size W V) => same_true (hF.l2.later hV) (hF'.l2.later hV) h.n2
  have H3 := Nu.hid fun V (hV : Below W.heap.size W V) => same_true (hF.l3.later hV) (hF'.l3.later hV) h.n3
  have H4 := Nu.hid fun V (hV : Below W.heap.size W V) => same_true (hF.l4.later hV) (hF'.l4.later hV) h.n4
  have HWW := Nu.hid hW
  have HB0 := Nu.hid hB0
  rw [hW] at x0 x1 x2 x3 y0 y1 y2 y3
  clear h h' hF hF' g1 g2 hW hB0
  go_enter Try.func12, Try.ntmps12
  go_wp2_with (go_at_call 25; rw [← HWW.out]; refine (H1.out W (Below.refl _ _)).mono ?_; rintro e w1 ⟨rfl, hb1⟩; refine Hid.out ?_)
  refine Nu.hid ?_
  obtain ⟨⟨u0, u1, u2, u3⟩, v0, v1, v2, v3⟩ := HC.out w1 hb1
  clear x0 x1 x2 x3 y0 y1 y2 y3
  have G2 := Nu.hid (H2.out w1 hb1)
  have HB1 := Nu.hid hb1
  clear hb1
  go_wp2_with (go_at_call 25; refine G2.out.mono ?_; rintro e w2 ⟨rfl, hb2⟩; refine Hid.out ?_)
  refine Nu.hid ?_
  have hb3 := HB1.out.trans (hb2.mono HB1.out.size)
  obtain ⟨⟨u0, u1, u2, u3⟩, v0, v1, v2, v3⟩ := HC.out w2 hb3
  have G3 := Nu.hid (H3.out w2 hb3)
  have HB2 := Nu.hid hb3
  clear hb2 hb3 G2
  go_wp2_with (go_at_call 25; refine G3.out.mono ?_; rintro e w3 ⟨rfl, hb3⟩; refine Hid.out ?_)
  refine Nu.hid ?_
  have hb4 := HB2.out.trans (hb3.mono HB2.out.size)
  obtain ⟨⟨u0, u1, u2, u3⟩, v0, v1, v2, v3⟩ := HC.out w3 hb4
  have G4 := Nu.hid (H4.out w3 hb4)
  have HB3 := Nu.hid hb4
  clear hb3 hb4 G3
  go_wp2_with (go_at_call 25; refine G4.out.mono ?_; rintro e w4 ⟨rfl, hb5⟩)
  go_ret
  exact ⟨rfl, HB0.out.trans ((HB3.out.trans (hb5.mono HB3.out.size)).mono HB0.out.size)⟩

end Go.Proofs.Ytponmjipbcmlhaa
