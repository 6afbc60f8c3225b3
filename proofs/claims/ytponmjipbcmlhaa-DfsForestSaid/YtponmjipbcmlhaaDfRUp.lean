/-
  The document's up.
-/
import Derived.Test.YtponmjipbcmlhaaMgD
import Derived.Test.YtponmjipbcmlhaaDfRd
import Derived.Test.YtponmjipbcmlhaaCsRefs
import Derived.Test.YtponmjipbcmlhaaDfWalk
namespace Go.Proofs.Ytponmjipbcmlhaa
open Go.RowKit

set_option maxRecDepth 100000 in
set_option maxHeartbeats 8000000 in
theorem rup_any (n : Nat) (ao : Option Addr) (ca : Nat) (es : List (Int × Int)) (f : For) (s : Df.St) (v : Nat) (w : World) (he : EdgesAt w ao es) (hv : Si.Val n es) (hF : LstF w f s) (hl : s.par.length = n) (hvn : v < n) (hp : Df.at_ s.par v = -1 ∨ ∃ h : Nat, h < 2 * es.length ∧ Df.at_ s.par v = (h : Int)) :
    Calls Try.prog 36 #[.agg #[.int .i64 (n : Int), .slice ao es.length ca], f.val s, .int .i64 (v : Int)] w fun e w' => e = .returned (.int .i64 (Df.up es s v)) ∧ Below w.heap.size w w' := by
  obtain ⟨a1, a2, a3, a4, c1, c2, c3, c4⟩ := f
  obtain ⟨W, hW⟩ : ∃ W, W = (w.alloc (.cells #[.int .i64 n, .slice ao es.length ca] 24)).alloc (.cells #[.slice a1 n c1, .slice a2 s.hei.length c2, .slice a3 s.ord.length c3, .slice a4 s.ori.length c4] 28) := ⟨_, rfl⟩
  have hB0 : Below w.heap.size w W := by rw [hW]; exact ((Below.refl _ _).alloc (Nat.le_refl _) _).alloc (by simp) _
  have g1 : W.heap[w.heap.size]? = some (.cells #[.int .i64 n, .slice ao es.length ca] 24 (0, 0)) := by
    rw [hW, Below.heap_alloc _ _ _ (by simp)]
    exact heap_alloc_new w _
  have g2 : W.heap[w.heap.size + 1]? = some (.cells #[.slice a1 n c1, .slice a2 s.hei.length c2, .slice a3 s.ord.length c3, .slice a4 s.ori.length c4] 28 (0, 0)) := by
    rw [hW]
    exact alloc_at (by simp)
  obtain ⟨b1, o1, e1, d1⟩ := lst_at (hF.later hB0).l1 (i := v) (by omega)
  dsimp only at e1
  subst e1
  obtain ⟨x, hx⟩ : ∃ x, s.par.getD v (-1) = x := ⟨_, rfl⟩
  have hxa : Df.at_ s.par v = x := hx
  rw [hx] at d1
  have hup : Df.up es s v = Cs.frI es x := by
    unfold Df.up
    rw [Int.toNat_natCast, hxa]
  rw [hup]
  rw [hxa] at hp
  unfold For.val
  dsimp only
  rw [hl]
  obtain ⟨x0, x1, -⟩ := pair_cells g1
  obtain ⟨k0, k1, k2, k3, -⟩ := four_cells g2
  have v0 : (0 : Int) ≤ (v : Int) := by omega
  have v1 : (v : Int) < (n : Int) := by omega
  have HB0 := Nu.hid hB0
  have heW := he.later hB0
  rcases hp with rfl | ⟨h, hh, rfl⟩
  · have hf : Cs.frI es (-1) = -1 := by unfold Cs.frI; rw [if_neg (by omega)]
    rw [hf]
    rw [hW] at x0 x1 k0 k1 k2 k3 d1 HB0
    clear hx hxa hup hF he hW g1 g2 heW hB0
    go_enter Try.func36, Try.ntmps36
    go_wp2
    go_ret
    exact ⟨rfl, HB0.out⟩
  · rw [Cs.frI_in hh]
    have h0 : ¬ ((h : Int) < 0) := by omega
    have HS : Hid (∀ V, Below W.heap.size W V → V.cell? ⟨w.heap.size, 0, none⟩ = some (.int .i64 n) ∧ V.cell? ⟨w.heap.size, 1, none⟩ = some (.slice ao es.length ca) ∧ V.cell? ⟨w.heap.size + 1, 0, none⟩ = some (.slice (some ⟨b1, o1, none⟩) n c1) ∧ V.cell? ⟨b1, o1 + v, none⟩ = some (.int .i64 (h : Int))) := fun V hV => by
      have lt1 := lt_of_block g1
      have lt2 := lt_of_block g2
      have lt3 := block_lt_of_cell d1
      exact ⟨(hV.cell (p := ⟨_, 0, none⟩) lt1).trans x0, (hV.cell (p := ⟨_, 1, none⟩) lt1).trans x1, (hV.cell (p := ⟨_, 0, none⟩) lt2).trans k0, (hV.cell (p := ⟨b1, _, none⟩) lt3).trans d1⟩
    have HFR : Hid (∀ V, Below W.heap.size W V → Calls Try.prog 49 #[.agg #[.int .i64 (n : Int), .slice ao es.length ca], .int .i64 (h : Int)] V fun e w' => e = .returned (.int .i64 (Cs.fr es h : Int)) ∧ Below V.heap.size V w') := fun V hV => r4from_any n ao ca es h V (heW.later hV) hv hh
    have HW := Nu.hid hW
    have hbd : Below W.heap.size W W.drew := (Below.refl _ _).drew
    rw [hW] at x0 x1 k0 k1 k2 k3 d1
    clear hx hxa hup hF he hW g1 g2 heW hB0
    go_enter Try.func36, Try.ntmps36
    go_wp2_with fail
    rw [← HW.out]
    go_region_held3 (fun V => V.cell? ⟨w.heap.size, 0, none⟩ = some (.int .i64 n) ∧ V.cell? ⟨w.heap.size, 1, none⟩ = some (.slice ao es.length ca) ∧ V.cell? ⟨w.heap.size + 1, 0, none⟩ = some (.slice (some ⟨b1, o1, none⟩) n c1) ∧ V.cell? ⟨b1, o1 + v, none⟩ = some (.int .i64 (h : Int)))
      (exact HS.out _ (by first | assumption | exact hbd))
      ((go_at_call 49; refine (HFR.out _ (by first | assumption | exact hbd)).mono ?_; rintro e V1 ⟨rfl, hv1⟩; have hb1 : Below W.heap.size W V1 := Below.trans (by first | assumption | exact hbd) (hv1.mono (Below.size (by first | assumption | exact hbd)))))
    all_goals
      have HB1 := Nu.hid hb1
      go_wp2
      go_ret
      exact ⟨rfl, HB0.out.trans (HB1.out.mono HB0.out.size)⟩
