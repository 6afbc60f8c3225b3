/-
  dfs.Above.
-/
import Derived.Test.YtponmjipbcmlhaaDfVal
namespace Go.Proofs.Ytponmjipbcmlhaa
open Go.RowKit

set_option maxRecDepth 100000 in
set_option maxHeartbeats 16000000 in
theorem dabove_any (n : Int) (ao : Option Addr) (cap : Nat) (es : List (Int × Int)) (f : For) (s : Df.St) (x y : Int) (w : World) (he : EdgesAt w ao es) (hl : es.length ≤ 4611686018427387904) (hF : LstF w f s) :
    Calls Try.prog 18 #[graphVal n ao es.length cap, f.val s, .int .i64 x, .int .i64 y] w (BoolPost (AboveP n es s x y) w) := by
  obtain ⟨a1, a2, a3, a4, c1, c2, c3, c4⟩ := f
  obtain ⟨W, hW⟩ : ∃ W, W = (w.alloc (.cells #[.int .i64 n, .slice ao es.length cap] 24)).alloc (.cells #[.slice a1 s.par.length c1, .slice a2 s.hei.length c2, .slice a3 s.ord.length c3, .slice a4 s.ori.length c4] 28) := ⟨_, rfl⟩
  have hB0 : Below w.heap.size w W := by rw [hW]; exact ((Below.refl _ _).alloc (Nat.le_refl _) _).alloc (by simp) _
  have g1 : W.heap[w.heap.size]? = some (.cells #[.int .i64 n, .slice ao es.length cap] 24 (0, 0)) := by
    rw [hW, Below.heap_alloc _ _ _ (by simp)]
    exact heap_alloc_new w _
  have g2 : W.heap[w.heap.size + 1]? = some (.cells #[.slice a1 s.par.length c1, .slice a2 s.hei.length c2, .slice a3 s.ord.length c3, .slice a4 s.ori.length c4] 28 (0, 0)) := by
    rw [hW]
    exact alloc_at (by simp)
  have hrd := read_any n ao cap es ⟨a1, a2, a3, a4, c1, c2, c3, c4⟩ s W (he.later hB0) hl (hF.later hB0)
  unfold graphVal at hrd ⊢
  unfold For.val at hrd ⊢
  dsimp only at hrd ⊢
  have HRD := Nu.hid hrd
  have HB0 := Nu.hid hB0
  obtain ⟨x0, x1, -⟩ := pair_cells g1
  obtain ⟨k0, k1, k2, k3, -⟩ := four_cells g2
  have HWW := Nu.hid hW
  rw [hW] at x0 x1 k0 k1 k2 k3
  clear hrd hB0 g1 g2 he hW hF
  go_enter Try.func18, Try.ntmps18
  go_wp2_with (go_at_call 28; rw [← HWW.out]; refine HRD.out.mono ?_; rintro e w1 (⟨r, rfl, hs⟩ | ⟨r, rfl, hno, hb1⟩); rotate_left; have HNO := Nu.hid hno; have HB1 := Nu.hid hb1; clear hno hb1; rotate_left; refine Hid.out ?_)
  · refine Nu.hid ?_
    obtain ⟨m, p, gp, gb, av, P, E, w0, rfl, hval, hvf, rfl, hadj, hfull, hab, hbel⟩ := hs
    have HBW := Nu.hid (HB0.out.trans (hbel.mono HB0.out.size))
    have HVF : Hid (IsVF (m : Int) es s) := ⟨m, rfl, hval, hvf⟩
    have hX := rdVertex_any x hadj hfull.rd
    have hY := rdVertex_any y hadj hfull.rd
    by_cases hx : 0 ≤ x ∧ x < (m : Int)
    · rw [decide_eq_true hx] at hX
      by_cases hy : 0 ≤ y ∧ y < (m : Int)
      · rw [decide_eq_true hy] at hY
        obtain ⟨u, rfl⟩ : ∃ u : Nat, x = (u : Int) := ⟨x.toNat, by omega⟩
        obtain ⟨v, rfl⟩ : ∃ v : Nat, y = (v : Int) := ⟨y.toNat, by omega⟩
        have hA := rabove_any u v hfull (by omega) (by omega)
        rw [hab u v (by omega) (by omega)] at hA
        have HQ : Hid (AboveP (m : Int) es s u v ↔ Df.Anc es s u v) := by
          constructor
          · rintro ⟨_, u', v', h1, h2, _, _, h3⟩
            obtain rfl : u = u' := by omega
            obtain rfl : v = v' := by omega
            exact h3
          · exact fun h => ⟨HVF.out, u, v, rfl, rfl, by omega, by omega, h⟩
        have HX := Nu.hid hX
        have HY := Nu.hid hY
        have HA := Nu.hid hA
        clear hX hY hA hval hvf hadj hfull hab hbel hx hy x0 x1 k0 k1 k2 k3
        by_cases huv : u = v
        · subst huv
          go_wp2_with (first | (go_at_call 30; with_reducible refine HX.out.mono ?_; rintro e w2 ⟨rfl, hw2⟩; obtain rfl := hw2.symm; clear hw2) | (go_at_call 31; refine HA.out.mono ?_; rintro e w4 ⟨b, rfl, hb, hb4⟩; have HBB := Nu.hid hb; have HB4 := Nu.hid hb4; clear hb hb4))
          go_ret
          exact ⟨b, rfl, HBB.out.trans HQ.out.symm, HBW.out.trans (HB4.out.mono HBW.out.size)⟩
        · go_wp2_with (first | (go_at_call 30; first | (with_reducible refine HX.out.mono ?_; rintro e w2 ⟨rfl, hw2⟩; obtain rfl := hw2.symm; clear hw2) | (with_reducible refine HY.out.mono ?_; rintro e w3 ⟨rfl, hw3⟩; obtain rfl := hw3.symm; clear hw3)) | (go_at_call 31; refine HA.out.mono ?_; rintro e w4 ⟨b, rfl, hb, hb4⟩; have HBB := Nu.hid hb; have HB4 := Nu.hid hb4; clear hb hb4))
          go_ret
          exact ⟨b, rfl, HBB.out.trans HQ.out.symm, HBW.out.trans (HB4.out.mono HBW.out.size)⟩
      · rw [decide_eq_false hy] at hY
        have HN : Hid (¬ AboveP (m : Int) es s x y) := by
          rintro ⟨_, u', v', h1, h2, h3, h4, _⟩
          exact hy (by omega)
        have HX := Nu.hid hX
        have HY := Nu.hid hY
        clear hX hY hval hvf hadj hfull hab hbel hx hy x0 x1 k0 k1 k2 k3
        go_wp2_with (go_at_call 30; first | (with_reducible refine HX.out.mono ?_; rintro e w2 ⟨rfl, hw2⟩; obtain rfl := hw2.symm; clear hw2) | (with_reducible refine HY.out.mono ?_; rintro e w3 ⟨rfl, hw3⟩; obtain rfl := hw3.symm; clear hw3))
        go_ret
        exact ⟨false, rfl, ⟨fun h => (by cases h), fun h => absurd h HN.out⟩, HBW.out⟩
    · rw [decide_eq_false hx] at hX
      have HN : Hid (¬ AboveP (m : Int) es s x y) := by
        rintro ⟨_, u', v', h1, h2, h3, h4, _⟩
        exact hx (by omega)
      have HX := Nu.hid hX
      clear hX hY hval hvf hadj hfull hab hbel hx x0 x1 k0 k1 k2 k3
      go_wp2_with (go_at_call 30; with_reducible refine HX.out.mono ?_; rintro e w2 ⟨rfl, hw2⟩; obtain rfl := hw2.symm; clear hw2)
      go_ret
      exact ⟨false, rfl, ⟨fun h => (by cases h), fun h => absurd h HN.out⟩, HBW.out⟩
  · go_ret
    exact ⟨false, rfl, ⟨fun h => (by cases h), fun h => absurd h.1 HNO.out⟩, HB0.out.trans (HB1.out.mono HB0.out.size)⟩
