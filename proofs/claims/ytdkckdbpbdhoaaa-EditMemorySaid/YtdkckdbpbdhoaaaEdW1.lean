/-
  The program's Without.
-/
import Derived.Test.YtdkckdbpbdhoaaaEdDrop
import Derived.Test.YtdkckdbpbdhoaaaEdPut
namespace Go.Proofs.Ytdkckdbpbdhoaaa
open Go.RowKit Go.Sort

/-- The graph that is handed in lies in its box, and an empty answer in the next. -/
structure Bx1 (w : World) (n : Int) (ao : Option Addr) (cap : Nat) (es : List (Int × Int)) (W : World) : Prop where
  low : Below w.heap.size w W
  box : W.heap[w.heap.size]? = some (.cells #[.int .i64 n, .slice ao es.length cap] 24 (0, 0))
  res : W.heap[w.heap.size + 1]? = some (.cells #[.int .i64 0, .slice none 0 0] 24 (0, 0))
section
variable {w W W' : World} {n : Int} {ao : Option Addr} {cap : Nat} {es : List (Int × Int)}
theorem Bx1.start : Bx1 w n ao cap es ((w.alloc (.cells #[.int .i64 n, .slice ao es.length cap] 24)).alloc (.cells #[.int .i64 0, .slice none 0 0] 24)) := by
  refine ⟨((Below.refl _ _).alloc (Nat.le_refl _) _).alloc (by simp) _, ?_, ?_⟩
  · rw [Below.heap_alloc _ _ _ (by simp)]
    exact heap_alloc_new w _
  · have := heap_alloc_new (w.alloc (.cells #[.int .i64 n, .slice ao es.length cap] 24)) (.cells #[.int .i64 0, .slice none 0 0] 24)
    simpa using this
theorem Bx1.later (h : Bx1 w n ao cap es W) (hb : Below W.heap.size W W') : Bx1 w n ao cap es W' :=
  ⟨h.low.trans (hb.mono h.low.size), (hb.block _ (lt_of_block h.box)).trans h.box, (hb.block _ (lt_of_block h.res)).trans h.res⟩
theorem Bx1.below {B : Nat} (h : Bx1 w n ao cap es W) (hb : Below B W W') (hB : w.heap.size + 1 < B) : Bx1 w n ao cap es W' :=
  ⟨h.low.trans (hb.mono (by omega)), (hb.block _ (by omega)).trans h.box, (hb.block _ hB).trans h.res⟩
theorem Bx1.cells (h : Bx1 w n ao cap es W) : W.cell? ⟨w.heap.size, 0, none⟩ = some (.int .i64 n) ∧ W.cell? ⟨w.heap.size, 1, none⟩ = some (.slice ao es.length cap) := ⟨(pair_cells h.box).1, (pair_cells h.box).2.1⟩
theorem Bx1.rcells (h : Bx1 w n ao cap es W) : W.cell? ⟨w.heap.size + 1, 0, none⟩ = some (.int .i64 0) ∧ W.cell? ⟨w.heap.size + 1, 1, none⟩ = some (.slice none 0 0) := ⟨(pair_cells h.res).1, (pair_cells h.res).2.1⟩
theorem Bx1.free (h : Bx1 w n ao cap es W) (i : Nat) : W.frozen? ⟨w.heap.size + 1, i, none⟩ = false := by simp [World.frozen?, h.res]
theorem Bx1.size (h : Bx1 w n ao cap es W) : w.heap.size + 1 < W.heap.size := lt_of_block h.res
theorem cell_put2 {b i r : Nat} (h : b ≠ r) (x y : Value) : ((W.setCell ⟨r, 0, none⟩ x).setCell ⟨r, 1, none⟩ y).cell? ⟨b, i, none⟩ = W.cell? ⟨b, i, none⟩ := by
  simp [World.cell?, pair_set_other h x y]
theorem own_put2 {B r : Nat} {v : Value} (h : OwnE W B v es) (hr : v.ownBlock ≠ some r) (x y : Value) : OwnE ((W.setCell ⟨r, 0, none⟩ x).setCell ⟨r, 1, none⟩ y) B v es := by
  refine ⟨h.1, ?_⟩
  rcases h.2 with h | ⟨g, cap, cur, e, hgB, hh, hk⟩
  · exact .inl h
  · have hg : g ≠ r := fun e' => hr (by rw [e, e']; rfl)
    refine .inr ⟨g, cap, cur, e, hgB, ?_, hk⟩
    rw [heap_setCell_other _ ⟨r, 1, none⟩ g y hg, heap_setCell_other _ ⟨r, 0, none⟩ g x hg]
    exact hh
/-- The answer is stored. -/
theorem Bx1.store (h : Bx1 w n ao cap es W) (x y : Value) : Below w.heap.size w ((W.setCell ⟨w.heap.size + 1, 0, none⟩ x).setCell ⟨w.heap.size + 1, 1, none⟩ y) ∧ ((W.setCell ⟨w.heap.size + 1, 0, none⟩ x).setCell ⟨w.heap.size + 1, 1, none⟩ y).cell? ⟨w.heap.size + 1, 0, none⟩ = some x ∧ ((W.setCell ⟨w.heap.size + 1, 0, none⟩ x).setCell ⟨w.heap.size + 1, 1, none⟩ y).cell? ⟨w.heap.size + 1, 1, none⟩ = some y := by
  obtain ⟨r0, r1, -⟩ := pair_cells (pair_set h.res x y)
  exact ⟨(h.low.setCell (by simp) _).setCell (by simp) _, r0, r1⟩
end

set_option maxRecDepth 100000 in
set_option maxHeartbeats 8000000 in
theorem ewithout_any (n e : Int) (ao : Option Addr) (cap : Nat) (es : List (Int × Int)) (w : World) (he : EdgesAt w ao es) (hl : es.length ≤ 4611686018427387904) :
    Calls Try.prog 10 #[graphVal n ao es.length cap, .int .i64 e] w (AnsP (Ed.without n es e) w) := by
  have HE := Nu.hid he
  have hva := fun W (hb : Below w.heap.size w W) => valid_any n ao cap es W (he.later hb) hl
  have hB0 := Bx1.start (w := w) (n := n) (ao := ao) (cap := cap) (es := es)
  unfold graphVal at hva ⊢
  have HVA := Nu.hid hva
  have HB0 := Nu.hid hB0
  have HRF := Nu.hid refuse_any
  clear he hva hB0
  cases hv : Si.valid n es with
  | false =>
    have hr : Ed.without n es e = (0, [], 1) := by unfold Ed.without; rw [if_pos hv]
    rw [hr]
    rw [hv] at HVA
    clear hv hr
    go_enter Try.func10, Try.ntmps10
    go_wp2_with (go_at_call 35; refine (HVA.out _ HB0.out.low).mono ?_; rintro e w1 ⟨rfl, hb⟩; refine Hid.out ?_)
    refine Nu.hid ?_
    have HB1 := Nu.hid (HB0.out.later hb)
    clear hb
    go_wp2_with (go_at_call 36; refine (HRF.out _ _).mono ?_; rintro e w2 ⟨rfl, hb⟩; have HB2 := Nu.hid (HB1.out.later hb); clear hb; obtain ⟨r0, r1⟩ := HB2.out.rcells; have f0 := HB2.out.free 0; have f1 := HB2.out.free 1)
    obtain ⟨hb, s0, s1⟩ := HB2.out.store (.int .i64 0) (.slice none 0 0)
    refine bodyPost_ret (v := .tuple #[.agg #[.int .i64 0, .slice none 0 0], .int .i64 1]) (by simp [results, Try.results10, go_sem, s0, s1]) rfl ?_
    exact ⟨_, rfl, OwnE.nil _ _, hb⟩
  | true =>
    have hval := Si.valid_iff.1 hv
    have hfew := hval.few
    have HVAL := Nu.hid hval
    have HV := Nu.hid hv
    rw [hv] at HVA
    clear hv hval
    by_cases hin : 0 ≤ e ∧ e < (es.length : Int)
    · obtain ⟨k, rfl⟩ : ∃ k : Nat, e = (k : Int) := ⟨e.toNat, by omega⟩
      have hkl : k < es.length := by omega
      have hk0 : (0 : Int) ≤ (k : Int) := by omega
      have hk1 : (k : Int) < (es.length : Int) := hin.2
      obtain ⟨x, hx⟩ : ∃ x, es[k]? = some x := ⟨_, List.getElem?_eq_getElem hkl⟩
      have hr : Ed.without n es (k : Int) = (n, es.erase x, 0) := by
        unfold Ed.without
        rw [if_neg (by rw [HV.out]; simp), if_neg (by omega), Ed.erase_at HVAL.out hx]
        simp
      rw [hr]
      have HX := Nu.hid hx
      obtain ⟨b, o, rfl, hcc, _⟩ := HE.out k x hx
      have hbw : b < w.heap.size := block_lt_of_cell hcc
      have hbn : b ≠ w.heap.size + 1 := by omega
      clear hcc
      clear hr hin hx
      obtain ⟨x1, x2⟩ := x
      have HC : Hid (∀ W, Below w.heap.size w W → W.cell? ⟨b, o + k * 2, none⟩ = some (.int .i64 x1) ∧ W.cell? ⟨b, o + k * 2 + 1, none⟩ = some (.int .i64 x2)) := fun W hb => by
        obtain ⟨b', o', e', c0, c1⟩ := (HE.out.later hb) k _ HX.out
        cases e'
        exact ⟨c0, c1⟩
      have hdr := fun W gb (hb : Below w.heap.size w W) hg => drop_any (some ⟨b, o, none⟩) cap gb es (x1, x2) W (HE.out.later hb) hfew (by omega) hg
      dsimp only at hdr
      have HDR := Nu.hid hdr
      clear hdr
      go_enter Try.func10, Try.ntmps10
      go_wp2_with (go_at_call 35; refine (HVA.out _ HB0.out.low).mono ?_; rintro e w1 ⟨rfl, hb⟩; refine Hid.out ?_)
      refine Nu.hid ?_
      have HB1 := Nu.hid (HB0.out.later hb)
      clear hb
      obtain ⟨g0, g1⟩ := HB1.out.cells
      have hs1 := HB1.out.size
      go_wp2_with (go_at_call 37; refine (isnum_yes hk0 hk1 _).mono ?_; rintro e w2 ⟨rfl, rfl⟩)
      obtain ⟨c0, c1⟩ := HC.out _ HB1.out.low
      have hbl : b < w2.heap.size := block_lt_of_cell c0
      go_region_held3 (fun w' => w'.cell? ⟨w.heap.size, 0, none⟩ = some (.int .i64 n) ∧ w'.cell? ⟨w.heap.size, 1, none⟩ = some (.slice (some ⟨b, o, none⟩) es.length cap) ∧ w'.cell? ⟨b, o + k * 2, none⟩ = some (.int .i64 x1) ∧ w'.cell? ⟨b, o + k * 2 + 1, none⟩ = some (.int .i64 x2))
        (first
          | (go_keep; done)
          | (go_split_ands
             refine ⟨?_, ?_, ?_, ?_⟩ <;> (refine (hb3.cell (p := ⟨_, _, none⟩) ?_).trans ?_ <;> first | assumption | (simp; omega)))
          | (go_split_ands; (try dsimp only); (repeat' apply And.intro) <;> (refine (cell_put2 ?_ _ _).trans ?_ <;> first | assumption | omega | (simp; done))))
        ((go_at_call 38; refine (HDR.out _ w2.heap.size (HB1.out.low.alloc (by omega) _).drew (heap_alloc_new w2 _)).mono ?_; rintro e w3 ⟨v, rfl, hown, hb3'⟩; have hb3 : Below w2.heap.size w2 w3 := ((Below.refl w2.heap.size w2).alloc (Nat.le_refl _) _).drew.trans (hb3'.mono (by simp)); have hown2 : OwnE w3 w.heap.size v (es.erase (x1, x2)) := hown.lower (by simp; omega); obtain ⟨va, vc, rfl, -, -, -, -⟩ := hown.form; have HB3 := Nu.hid (HB1.out.later hb3); obtain ⟨r0, r1⟩ := HB3.out.rcells; have f0 := HB3.out.free 0; have f1 := HB3.out.free 1))
      have HOWN := Nu.hid hown2
      have HFAR := Nu.hid (hown.far (b := w.heap.size + 1) (by simp; omega))
      clear hown2 hown hb3 hb3'
      go_wp2
      obtain ⟨hb, s0, s1⟩ := HB3.out.store (.int .i64 n) (.slice va (es.erase (x1, x2)).length vc)
      refine bodyPost_ret (v := .tuple #[.agg #[.int .i64 n, .slice va (es.erase (x1, x2)).length vc], .int .i64 0]) (by simp [results, Try.results10, go_sem, s0, s1]) rfl ?_
      exact ⟨_, rfl, own_put2 HOWN.out HFAR.out _ _, hb⟩
    · have hr : Ed.without n es e = (0, [], 2) := by
        unfold Ed.without
        rw [if_neg (by rw [HV.out]; simp), if_pos (by omega)]
      rw [hr]
      have HOUT : Hid (e < 0 ∨ (es.length : Int) ≤ e) := Nu.hid (by omega)
      clear hin hr
      go_enter Try.func10, Try.ntmps10
      go_wp2_with (go_at_call 35; refine (HVA.out _ HB0.out.low).mono ?_; rintro e w1 ⟨rfl, hb⟩; refine Hid.out ?_)
      refine Nu.hid ?_
      have HB1 := Nu.hid (HB0.out.later hb)
      clear hb
      obtain ⟨g0, g1⟩ := HB1.out.cells
      have hs1 := HB1.out.size
      go_wp2_with (first
        | (go_at_call 37; refine (isnum_no HOUT.out _).mono ?_; rintro e w2 ⟨rfl, rfl⟩)
        | (go_at_call 36; refine (HRF.out _ _).mono ?_; rintro e w2 ⟨rfl, hb⟩; have HB2 := Nu.hid (HB1.out.later hb); clear hb; obtain ⟨r0, r1⟩ := HB2.out.rcells; have f0 := HB2.out.free 0; have f1 := HB2.out.free 1))
      obtain ⟨hb, s0, s1⟩ := HB2.out.store (.int .i64 0) (.slice none 0 0)
      refine bodyPost_ret (v := .tuple #[.agg #[.int .i64 0, .slice none 0 0], .int .i64 2]) (by simp [results, Try.results10, go_sem, s0, s1]) rfl ?_
      exact ⟨_, rfl, OwnE.nil _ _, hb⟩

end Go.Proofs.Ytdkckdbpbdhoaaa
