/-
  dfs.Valid, dfs.Above.
-/
import Derived.Test.YtponmjipbcmlhaaDfRead
namespace Go.Proofs.Ytponmjipbcmlhaa
open Go.RowKit

theorem Stands.isVF {n : Int} {es : List (Int × Int)} {f : For} {s : Df.St} {w w' : World} {r : Option Addr} (h : Stands n es f s w r w') : IsVF n es s := by
  obtain ⟨m, p, gp, gb, av, P, E, w0, h1, h2, h3, _⟩ := h
  exact ⟨m, h1, h2, h3⟩

theorem Stands.bel {n : Int} {es : List (Int × Int)} {f : For} {s : Df.St} {w w' : World} {r : Option Addr} (h : Stands n es f s w r w') : Below w.heap.size w w' := by
  obtain ⟨m, p, gp, gb, av, P, E, w0, h1, h2, h3, h4, h5, h6, h7, h8⟩ := h
  exact h8

/-- What Above tells: the forest is one of the graph, both are vertices, one stands above the other. -/
def AboveP (n : Int) (es : List (Int × Int)) (s : Df.St) (x y : Int) : Prop := IsVF n es s ∧ ∃ u v : Nat, x = (u : Int) ∧ y = (v : Int) ∧ (u : Int) < n ∧ (v : Int) < n ∧ Df.Anc es s u v

set_option maxRecDepth 100000 in
set_option maxHeartbeats 16000000 in
theorem dvalid_any (n : Int) (ao : Option Addr) (cap : Nat) (es : List (Int × Int)) (f : For) (s : Df.St) (w : World) (he : EdgesAt w ao es) (hl : es.length ≤ 4611686018427387904) (hF : LstF w f s) :
    Calls Try.prog 14 #[graphVal n ao es.length cap, f.val s] w (BoolPost (IsVF n es s) w) := by
  obtain ⟨a1, a2, a3, a4, c1, c2, c3, c4⟩ := f
  obtain ⟨W, hW⟩ : ∃ W, W = (w.alloc (.cells #[.int .i64 n, .slice ao es.length cap] 24)).alloc (.cells #[.slice a1 s.par.length c1, .slice a2 s.hei.length c2, .slice a3 s.ord.length c3, .slice a4 s.ori.length c4] 28) := ⟨_, rfl⟩
  have hB0 : Below w.heap.size w W := by rw [hW]; exact ((Below.refl _ _).alloc (Nat.le_refl _) _).alloc (by simp) _
  have g1 : W.heap[w.heap.size]? = some (.cells #[.int .i64 n, .slice ao es.length cap] 24 (0, 0)) := by
    rw [hW, Below.heap_alloc _ _ _ (by simp)]
    exact heap_alloc_new w _
  have g2 : W.heap[w.heap.size + 1]? = some (.cells #[.slice a1 s.par.length c1, .slice a2 s.hei.length c2, .slice a3 s.ord.length c3, .slice a4 s.ori.length c4] 28 (0, 0)) := by
    rw [hW]
    exact alloc_at (by simp)
  have hrd := read_any n ao cap es ⟨a1, a2, a3, a4, c1, c2, c3, c4⟩ s W (he.later hB0) hl (hF.later hB0)
  unfold graphVal at hrd ⊢
  unfold For.val at hrd ⊢
  dsimp only at hrd ⊢
  have HRD := Nu.hid hrd
  have HB0 := Nu.hid hB0
  obtain ⟨x0, x1, -⟩ := pair_cells g1
  obtain ⟨k0, k1, k2, k3, -⟩ := four_cells g2
  have HWW := Nu.hid hW
  rw [hW] at x0 x1 k0 k1 k2 k3
  clear hrd hB0 g1 g2 he hW hF
  go_enter Try.func14, Try.ntmps14
  go_wp2_with (go_at_call 28; rw [← HWW.out]; refine HRD.out.mono ?_; rintro e w1 (⟨r, rfl, hs⟩ | ⟨r, rfl, hno, hb1⟩); rotate_left; have HNO := Nu.hid hno; have HB1 := Nu.hid hb1; clear hno hb1; rotate_left; have HS := Nu.hid hs; clear hs)
  · go_ret
    exact ⟨true, rfl, ⟨fun _ => HS.out.isVF, fun _ => rfl⟩, HB0.out.trans (HS.out.bel.mono HB0.out.size)⟩
  · go_ret
    exact ⟨false, rfl, ⟨fun h => (by cases h), fun h => absurd h HNO.out⟩, HB0.out.trans (HB1.out.mono HB0.out.size)⟩
