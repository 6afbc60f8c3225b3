/-
  Proved: for every graph the law DfsOwn answers true, and the graph reads afterwards as before. No condition.
-/
import Derived.Test.YtponmjipbcmlhaaDfVal
import Derived.Test.YtponmjipbcmlhaaDfCopy
import Derived.Test.YtponmjipbcmlhaaCsRef
import Derived.Test.YtponmjipbcmlhaaDfBack
import Derived.Test.YtponmjipbcmlhaaDfSame
import Derived.Test.YtponmjipbcmlhaaMgI
import Derived.Test.YtponmjipbcmlhaaDfAwake
import Derived.Test.YtponmjipbcmlhaaCsRow
import Derived.Test.YtponmjipbcmlhaaSiGin
import Derived.Deep.RegionHeld3
namespace Go.Proofs.Ytponmjipbcmlhaa
open Go.ChangeShapes Go.WideShapes Go.ChangeAt Go.RowKit
namespace lawDOwn

/-- The graph g, its copy h with an edge more, and 'in', in their boxes. -/
structure Sw (w : World) (n : Int) (ao : Option Addr) (ca : Nat) (es : List (Int × Int)) (bH bI g2 c2 B1 : Nat) (V : World) : Prop where
  G : V.heap[w.heap.size]? = some (.cells #[.int .i64 n, .slice ao es.length ca] 24 (0, 0))
  H : V.heap[bH]? = some (.cells #[.int .i64 n, .slice (some ⟨g2, 0, none⟩) (es.length + 1) c2] 24 (0, 0))
  I : V.heap[bI]? = some (.cells #[.int .i64 n, .slice (some ⟨g2, 0, none⟩) es.length c2] 24 (0, 0))
  E : OwnE V B1 (.slice (some ⟨g2, 0, none⟩) (es.length + 1) c2) (es ++ [(-5, -6)])
  bel : Below w.heap.size w V

section
variable {w V V' : World} {n : Int} {ao : Option Addr} {ca : Nat} {es : List (Int × Int)} {bH bI g2 c2 B1 : Nat}
theorem Sw.gl (h : Sw w n ao ca es bH bI g2 c2 B1 V) : g2 < V.heap.size := (World.ownsRow.lt h.E g2 rfl).2
theorem Sw.wrote {S : Nat → Prop} (h : Sw w n ao ca es bH bI g2 c2 B1 V) (hw : Wrote S V V') (h1 : ¬ S w.heap.size ∧ ¬ S bH ∧ ¬ S bI ∧ ¬ S g2) (h2 : ∀ b, S b → w.heap.size ≤ b) : Sw w n ao ca es bH bI g2 c2 B1 V' :=
  ⟨(hw.block _ (lt_of_block h.G) h1.1).trans h.G, (hw.block _ (lt_of_block h.H) h1.2.1).trans h.H, (hw.block _ (lt_of_block h.I) h1.2.2.1).trans h.I, own_same h.E fun g hg => by
    obtain rfl : g2 = g := by simpa [Value.ownBlock] using hg
    exact hw.block _ h.gl h1.2.2.2, h.bel.trans (hw.below h.bel.size h2)⟩
theorem Sw.later (h : Sw w n ao ca es bH bI g2 c2 B1 V) (hb : Below V.heap.size V V') : Sw w n ao ca es bH bI g2 c2 B1 V' :=
  h.wrote (S := fun _ => False) ((Wrote.refl _ _).later hb) ⟨id, id, id, id⟩ (fun _ h => h.elim)
/-- The cells that are read. -/
theorem Sw.cells (h : Sw w n ao ca es bH bI g2 c2 B1 V) : V.cell? ⟨w.heap.size, 0, none⟩ = some (.int .i64 n) ∧ V.cell? ⟨w.heap.size, 1, none⟩ = some (.slice ao es.length ca) ∧ V.cell? ⟨bH, 1, none⟩ = some (.slice (some ⟨g2, 0, none⟩) (es.length + 1) c2) ∧ V.cell? ⟨bI, 0, none⟩ = some (.int .i64 n) ∧ V.cell? ⟨bI, 1, none⟩ = some (.slice (some ⟨g2, 0, none⟩) es.length c2) ∧ V.cell? ⟨g2, es.length * 2, none⟩ = some (.int .i64 (-5)) ∧ V.cell? ⟨g2, es.length * 2 + 1, none⟩ = some (.int .i64 (-6)) := by
  obtain ⟨a0, a1, -⟩ := pair_cells h.G
  obtain ⟨b0, b1, -⟩ := pair_cells h.H
  obtain ⟨d0, d1, -⟩ := pair_cells h.I
  obtain ⟨_, e0, e1⟩ := own_first h.E
  exact ⟨a0, a1, b1, d0, d1, e0, e1⟩
theorem Sw.edges (h : Sw w n ao ca es bH bI g2 c2 B1 V) : EdgesAt V (some ⟨g2, 0, none⟩) es := (own_first h.E).1
end

theorem own_lst {w : World} {B n c : Nat} {ao : Option Addr} {l : List Int} (h : OwnZ w B (.slice ao n c) l) : Lst w ao n c l := by
  obtain ⟨a, c', e, hl, _⟩ := h.lst
  cases e
  exact hl

/-- One walk, one answer. -/
theorem walk_same {n : Int} {es : List (Int × Int)} {s s' : Df.St} {z z' : Int} (h : (∃ m : Nat, n = (m : Int) ∧ Si.Val n es ∧ Df.Wk m es m s ∧ z = 0) ∨ (Si.valid n es = false ∧ s = ⟨[], [], [], []⟩ ∧ z = 1)) (h' : (∃ m : Nat, n = (m : Int) ∧ Si.Val n es ∧ Df.Wk m es m s' ∧ z' = 0) ∨ (Si.valid n es = false ∧ s' = ⟨[], [], [], []⟩ ∧ z' = 1)) : s = s' ∧ z = z' := by
  rcases h with ⟨m, hm, hv, hw, hz⟩ | ⟨hv, hs, hz⟩
  · rcases h' with ⟨m', hm', _, hw', hz'⟩ | ⟨hv', _, _⟩
    · obtain rfl : m = m' := by omega
      exact ⟨hw.unique hw', by rw [hz, hz']⟩
    · rw [Si.valid_iff.2 hv] at hv'
      cases hv'
  · rcases h' with ⟨m', hm', hv', hw', hz'⟩ | ⟨hv', hs', hz'⟩
    · rw [Si.valid_iff.2 hv'] at hv
      cases hv
    · exact ⟨by rw [hs, hs'], by rw [hz, hz']⟩

/-- The lists are few. -/
theorem walk_few {n : Int} {es : List (Int × Int)} {s : Df.St} {z : Int} (h : (∃ m : Nat, n = (m : Int) ∧ Si.Val n es ∧ Df.Wk m es m s ∧ z = 0) ∨ (Si.valid n es = false ∧ s = ⟨[], [], [], []⟩ ∧ z = 1)) : s.par.length ≤ 8388608 ∧ s.hei.length ≤ 8388608 ∧ s.ord.length ≤ 8388608 ∧ s.ori.length ≤ 8388608 := by
  rcases h with ⟨m, hm, hv, hw, hz⟩ | ⟨hv, hs, hz⟩
  · subst hm
    have b := hw.bd hv (Nat.le_refl _)
    have h1 := b.hr
    have h2 := b.few
    have h3 := hv.few
    have h4 := hv.hi
    refine ⟨by rw [b.lp]; omega, by rw [b.lh]; omega, by omega, by rw [b.lo]; omega⟩
  · subst hs
    decide

set_option maxRecDepth 100000 in
set_option maxHeartbeats 16000000 in
theorem walk (n : Int) (ao : Option Addr) (ca : Nat) (es : List (Int × Int)) (w : World) (_ : -9223372036854775808 ≤ n ∧ n ≤ 9223372036854775807) (hq : PairsIn w ao es.length ca es) (hle : es.length * 16 ≤ 140737488351232) :
    Calls Try.prog 8 #[.agg #[.int .i64 n, .slice ao es.length ca]] w fun e w' => e = .returned (.bool true) ∧ Below w.heap.size w w' := by
  obtain ⟨i0, hi, hz0, hz1, hz2⟩ := info_parts Try.infoEdge
  obtain ⟨j0, hj, hj0, hj1, hj2⟩ := info_parts Try.infoNum
  have HQ := Nu.hid hq
  have hcopy := fun W (hb : Below w.heap.size w W) => r4copy_any n ao ca es W (hq.hat.later hb) (fun h => (hq.hnil h).2) (by omega)
  unfold graphVal at hcopy
  have HCOPY := Nu.hid hcopy
  clear hq hcopy
  have hb0 : Below w.heap.size w (w.alloc (.cells #[.int .i64 n, .slice ao es.length ca] 24)) := (Below.refl _ _).alloc (Nat.le_refl _) _
  have HB0 := Nu.hid hb0
  clear hb0
  go_enter Try.func8, Try.ntmps8
  -- the fixed fact
  go_wp2_with (go_at_call 9; refine (awake_any _).mono ?_; rintro e w1 ⟨rfl, hb⟩; refine Hid.out ?_)
  refine Nu.hid ?_
  have hG : w1.heap[w.heap.size]? = some (.cells #[.int .i64 n, .slice ao es.length ca] 24 (0, 0)) := (hb.block _ (by simp)).trans (heap_alloc_new w _)
  have HB1 := Nu.hid (HB0.out.trans (hb.mono HB0.out.size))
  have HG1 := Nu.hid hG
  obtain ⟨x0, x1, -⟩ := pair_cells hG
  have hs1 := lt_of_block hG
  clear hb hG
  -- the copy
  go_wp2_with (go_at_call 15; refine (HCOPY.out _ HB1.out).mono ?_; rintro e w2 ⟨gb, c, rfl, how, hb⟩; refine Hid.out ?_)
  refine Nu.hid ?_
  have HB2 := Nu.hid (HB1.out.trans (hb.mono HB1.out.size))
  have HG2 := Nu.hid ((hb.block _ hs1).trans HG1.out)
  have hs2 : w1.heap.size ≤ w2.heap.size := hb.size
  have HO2 := Nu.hid how
  clear x0 x1 hb how HG1
  obtain ⟨x0, x1, -⟩ := pair_cells HG2.out
  -- one edge more
  go_wp2_with (at_builtin; refine wpList_append_own _ rfl _ _ 22 rfl w1.heap.size 39 i0 (.agg #[.int .i64 0, .int .i64 0]) 2 16 Try.underlying22 hi hz0 hz1 hz2 rfl (by decide) _ _ _ rfl ((HO2.out.alloc _).alloc _) ⟨w2.heap.size + 1, 0, none⟩ 1 1 [.int .i64 (-5), .int .i64 (-6)] rfl rfl (new_two_e _ _ (by simp) _ _ _) (by simp [Value.oneCell']) (by unfold maxLen; omega) (by omega) (by simp; omega) ?_; refine Hid.out ?_)
  refine Nu.hid ?_
  intro v' w3 hrow3 hg3 _
  obtain ⟨g2, c2, rfl⟩ := own_succ hrow3
  have hgl := World.ownsRow.lt HO2.out gb rfl
  have h3 : w3.heap[w2.heap.size]? = some (.cells #[.int .i64 n, .slice (some ⟨gb, 0, none⟩) es.length c] 24 (0, 0)) := by
    rw [hg3.block w2.heap.size (by simp; omega) (by simp [Value.ownBlock]; omega), Below.heap_alloc _ _ _ (by simp)]
    exact heap_alloc_new w2 _
  have g3 : w3.heap[w.heap.size]? = some (.cells #[.int .i64 n, .slice ao es.length ca] 24 (0, 0)) := by
    rw [hg3.block w.heap.size (by simp; omega) (by simp [Value.ownBlock]; omega), Below.heap_alloc _ _ _ (by simp; omega), Below.heap_alloc _ _ _ (by omega)]
    exact HG2.out
  have hb3 : Below w.heap.size w w3 := ((HB2.out.alloc HB2.out.size _).alloc (by simp; omega) _).grown hg3 (by simp; omega) (fun k hk => by simp [Value.ownBlock] at hk; omega)
  have ho3 : OwnE w3 w1.heap.size (.slice (some ⟨g2, 0, none⟩) (es.length + 1) c2) (es ++ [(-5, -6)]) := by
    unfold OwnE
    rw [flatE_snoc, List.length_append]
    exact hrow3
  have hne : g2 ≠ w2.heap.size := fun e => by
    obtain ⟨_, _, _, cur, hh⟩ := own_block ho3
    rw [e, h3] at hh
    injection hh with hh
    injection hh with _ hh
    revert hh
    decide
  have hg2l := World.ownsRow.lt ho3 g2 rfl
  obtain ⟨y0, y1, yf⟩ := pair_cells h3
  obtain ⟨W4, hW4⟩ : ∃ W4, W4 = w3.setCell ⟨w2.heap.size, 1, none⟩ (.slice (some ⟨g2, 0, none⟩) (es.length + 1) c2) := ⟨_, rfl⟩
  have h4 : W4.heap[w2.heap.size]? = some (.cells #[.int .i64 n, .slice (some ⟨g2, 0, none⟩) (es.length + 1) c2] 24 (0, 0)) := by
    rw [hW4, heap_setCell_same w3 w2.heap.size 1 _ _ _ h3]
    simp
  have g4 : W4.heap[w.heap.size]? = some (.cells #[.int .i64 n, .slice ao es.length ca] 24 (0, 0)) := by
    rw [hW4, heap_setCell_other w3 ⟨w2.heap.size, 1, none⟩ w.heap.size _ (by show w.heap.size ≠ w2.heap.size; omega)]
    exact g3
  have hb4 : Below w.heap.size w W4 := by
    rw [hW4]
    exact hb3.setCell (p := ⟨w2.heap.size, 1, none⟩) (by show w.heap.size ≤ w2.heap.size; omega) _
  have ho4 : OwnE W4 w1.heap.size (.slice (some ⟨g2, 0, none⟩) (es.length + 1) c2) (es ++ [(-5, -6)]) := own_same ho3 fun g hg => by
    obtain rfl : g2 = g := by simpa [Value.ownBlock] using hg
    rw [hW4, heap_setCell_other w3 ⟨w2.heap.size, 1, none⟩ g2 _ hne]
  have hsz4 : W4.heap.size = w3.heap.size := by rw [hW4]; simp
  have HO4 := Nu.hid ho4
  have H4 := Nu.hid h4
  have G4 := Nu.hid g4
  have HB4 := Nu.hid hb4
  have HW4 := Nu.hid hW4
  clear hrow3 hg3 h3 g3 hb3 ho3 h4 g4 hb4 ho4 hW4 HO2 HG2 x0 x1
  go_wp2_with fail
  rw [← HW4.out]
  clear HW4 y0 y1 yf
  have hs4 : w2.heap.size < W4.heap.size := lt_of_block H4.out
  have hS : ∀ W, Below W4.heap.size W4 W → (W.cell? ⟨w.heap.size, 0, none⟩ = some (.int .i64 n) ∧ W.cell? ⟨w.heap.size, 1, none⟩ = some (.slice ao es.length ca) ∧ W.cell? ⟨w2.heap.size, 1, none⟩ = some (.slice (some ⟨g2, 0, none⟩) (es.length + 1) c2)) := fun W hb => by
    obtain ⟨a0, a1, -⟩ := pair_cells G4.out
    obtain ⟨b0, b1, -⟩ := pair_cells H4.out
    exact ⟨(hb.cell (p := ⟨w.heap.size, 0, none⟩) (by show w.heap.size < _; omega)).trans a0, (hb.cell (p := ⟨w.heap.size, 1, none⟩) (by show w.heap.size < _; omega)).trans a1, (hb.cell (p := ⟨w2.heap.size, 1, none⟩) hs4).trans b1⟩
  have HS := Nu.hid hS
  have hbr : Below W4.heap.size W4 W4.drew := (Below.refl _ _).drew
  have i1 : (0 : Int) ≤ (es.length : Int) := by omega
  have i2 : (es.length : Int) ≤ (es.length : Int) + 1 := by omega
  have i3 : (es.length : Int) ≤ (c2 : Int) := by
    have := own_block HO4.out
    simp at this
    omega
  clear hS
  go_region_held3 (fun W => W.cell? ⟨w.heap.size, 0, none⟩ = some (.int .i64 n) ∧ W.cell? ⟨w.heap.size, 1, none⟩ = some (.slice ao es.length ca) ∧ W.cell? ⟨w2.heap.size, 1, none⟩ = some (.slice (some ⟨g2, 0, none⟩) (es.length + 1) c2))
    (exact HS.out _ (by repeat (first | assumption | exact hbr | exact Below.refl _ _ | with_reducible refine bel_d ?_ | with_reducible refine bel_a ?_ _)))
    (fail)
  obtain ⟨W5, hW5⟩ : ∃ W5, W5 = (W4.alloc (.cells #[.int .i64 n, .slice (some ⟨g2, 0, none⟩) es.length c2] 24)).drew := ⟨_, rfl⟩
  rw [← hW5]
  have hb5 : Below W4.heap.size W4 W5 := by rw [hW5]; exact ((Below.refl _ _).alloc (Nat.le_refl _) _).drew
  have hsw5 : Sw w n ao ca es w2.heap.size w3.heap.size g2 c2 w1.heap.size W5 := by
    refine ⟨(hb5.block _ (lt_of_block G4.out)).trans G4.out, (hb5.block _ hs4).trans H4.out, ?_, HO4.out.below hb5 (Nat.le_refl _), HB4.out.trans (hb5.mono HB4.out.size)⟩
    rw [hW5]
    exact alloc_at hsz4
  have HSW := Nu.hid hsw5
  have HLT5 : Hid (w.heap.size < W5.heap.size ∧ w2.heap.size < W5.heap.size ∧ w3.heap.size < W5.heap.size ∧ g2 < W5.heap.size ∧ w1.heap.size ≤ W5.heap.size) := ⟨lt_of_block hsw5.G, lt_of_block hsw5.H, lt_of_block hsw5.I, hsw5.gl, by have := hb5.size; omega⟩
  have HWK : Hid (∀ V, Sw w n ao ca es w2.heap.size w3.heap.size g2 c2 w1.heap.size V → Calls Try.prog 22 #[.agg #[.int .i64 n, .slice (some ⟨g2, 0, none⟩) es.length c2]] V (WalkPost n es V)) := fun V h => by
    have := dwalk_any n (some ⟨g2, 0, none⟩) c2 es V h.edges (by omega)
    unfold graphVal at this
    exact this
  have HSG : Hid (∀ V, Sw w n ao ca es w2.heap.size w3.heap.size g2 c2 w1.heap.size V → Calls Try.prog 23 #[.agg #[.int .i64 n, .slice (some ⟨g2, 0, none⟩) es.length c2], .agg #[.int .i64 n, .slice ao es.length ca]] V fun e w' => e = .returned (.bool true) ∧ Below V.heap.size V w') := fun V h => by
    have := r4same_any n (some ⟨g2, 0, none⟩) ao c2 ca es V h.edges (HQ.out.hat.later h.bel) (by omega)
    unfold graphVal at this
    exact this
  obtain ⟨x0, x1, x2, x3, x4, x5, x6⟩ := hsw5.cells
  generalize hbH : w2.heap.size = bH at *
  generalize hbI : w3.heap.size = bI at *
  clear hW5 hb5 hsw5 hbr hs4 hsz4 HS G4 H4 HO4 HB4 hbH hbI
  go_wp2_with (go_at_call 22; refine (HWK.out _ HSW.out).mono ?_; rintro e w6 ⟨v1, v2, v3, v4, s, z, rfl, hown, hcase, hb6⟩; refine Hid.out ?_)
  refine Nu.hid ?_
  have hfew := walk_few hcase
  obtain ⟨f, rfl, rfl, rfl, rfl, hl6⟩ := hown.lst (by omega)
  obtain ⟨a1, a2, a3, a4, k1, k2, k3, k4⟩ := f
  -- a's box
  obtain ⟨w7, hw7⟩ : ∃ w7, w7 = w6.alloc (.cells #[.slice a1 s.par.length k1, .slice a2 s.hei.length k2, .slice a3 s.ord.length k3, .slice a4 s.ori.length k4] 28) := ⟨_, rfl⟩
  have hb7 : Below w6.heap.size w6 w7 := by rw [hw7]; exact (Below.refl _ _).alloc (Nat.le_refl _) _
  have g7 : w7.heap[w6.heap.size]? = some (.cells #[.slice a1 s.par.length k1, .slice a2 s.hei.length k2, .slice a3 s.ord.length k3, .slice a4 s.ori.length k4] 28 (0, 0)) := by rw [hw7]; exact heap_alloc_new w6 _
  have hsw7 : Sw w n ao ca es bH bI g2 c2 w1.heap.size w7 := (HSW.out.later hb6).later hb7
  have HSW7 := Nu.hid hsw7
  have HW7 := Nu.hid hw7
  have HG7 := Nu.hid g7
  have HOA := Nu.hid (hown.later hb7)
  have HAL : Hid (∀ x ∈ [Value.slice a1 s.par.length k1, .slice a2 s.hei.length k2, .slice a3 s.ord.length k3, .slice a4 s.ori.length k4], ∀ b, x.ownBlock = some b → b < w7.heap.size) := fun x hx b hb => by
    have := (hown.block_lt x hx b hb).2
    have := hb7.size
    omega
  have HS67 : Hid (W5.heap.size ≤ w6.heap.size ∧ w6.heap.size < w7.heap.size) := ⟨hb6.size, lt_of_block g7⟩
  have HCASE := Nu.hid hcase
  have HFEW := Nu.hid hfew
  obtain ⟨y0, y1, y2, y3, y4, y5, y6⟩ := hsw7.cells
  rw [hw7] at y0 y1 y2 y3 y4 y5 y6
  clear hown hcase hb6 hfew hl6 hb7 g7 hsw7 hw7 x0 x1 x2 x3 x4 x5 x6
  go_wp2_with (go_at_call 22; rw [← HW7.out]; refine (HWK.out _ HSW7.out).mono ?_; rintro e w8 ⟨v1, v2, v3, v4, s', z', rfl, hown, hcase, hb8⟩; refine Hid.out ?_)
  refine Nu.hid ?_
  obtain ⟨rfl, rfl⟩ := walk_same HCASE.out hcase
  obtain ⟨f, rfl, rfl, rfl, rfl, hl8⟩ := hown.lst (by have := HFEW.out; omega)
  obtain ⟨b1, b2, b3, b4, d1, d2, d3, d4⟩ := f
  -- b's box
  obtain ⟨w9, hw9⟩ : ∃ w9, w9 = w8.alloc (.cells #[.slice b1 s.par.length d1, .slice b2 s.hei.length d2, .slice b3 s.ord.length d3, .slice b4 s.ori.length d4] 28) := ⟨_, rfl⟩
  have hb9 : Below w8.heap.size w8 w9 := by rw [hw9]; exact (Below.refl _ _).alloc (Nat.le_refl _) _
  have g9 : w9.heap[w8.heap.size]? = some (.cells #[.slice b1 s.par.length d1, .slice b2 s.hei.length d2, .slice b3 s.ord.length d3, .slice b4 s.ori.length d4] 28 (0, 0)) := by rw [hw9]; exact heap_alloc_new w8 _
  have hb79 : Below w7.heap.size w7 w9 := hb8.trans (hb9.mono hb8.size)
  have hsw9 : Sw w n ao ca es bH bI g2 c2 w1.heap.size w9 := HSW7.out.later hb79
  have hA9 : w9.heap[w6.heap.size]? = some (.cells #[.slice a1 s.par.length k1, .slice a2 s.hei.length k2, .slice a3 s.ord.length k3, .slice a4 s.ori.length k4] 28 (0, 0)) := (hb79.block _ HS67.out.2).trans HG7.out
  have hoa9 := HOA.out.later hb79
  have hob9 := hown.later hb9
  have hs9 := lt_of_block g9
  have hs89 : w7.heap.size ≤ w8.heap.size := hb8.size
  have HALL : Hid (∀ V, Below w9.heap.size w9 V → Sw w n ao ca es bH bI g2 c2 w1.heap.size V ∧ (V.cell? ⟨w6.heap.size, 0, none⟩ = some (.slice a1 s.par.length k1) ∧ V.cell? ⟨w6.heap.size, 1, none⟩ = some (.slice a2 s.hei.length k2) ∧ V.cell? ⟨w6.heap.size, 2, none⟩ = some (.slice a3 s.ord.length k3) ∧ V.cell? ⟨w6.heap.size, 3, none⟩ = some (.slice a4 s.ori.length k4)) ∧ (V.cell? ⟨w8.heap.size, 0, none⟩ = some (.slice b1 s.par.length d1) ∧ V.cell? ⟨w8.heap.size, 1, none⟩ = some (.slice b2 s.hei.length d2) ∧ V.cell? ⟨w8.heap.size, 2, none⟩ = some (.slice b3 s.ord.length d3) ∧ V.cell? ⟨w8.heap.size, 3, none⟩ = some (.slice b4 s.ori.length d4)) ∧ OwnF V W5.heap.size (.slice a1 s.par.length k1) (.slice a2 s.hei.length k2) (.slice a3 s.ord.length k3) (.slice a4 s.ori.length k4) s ∧ OwnF V w7.heap.size (.slice b1 s.par.length d1) (.slice b2 s.hei.length d2) (.slice b3 s.ord.length d3) (.slice b4 s.ori.length d4) s ∧ LstF V ⟨a1, a2, a3, a4, k1, k2, k3, k4⟩ s ∧ LstF V ⟨b1, b2, b3, b4, d1, d2, d3, d4⟩ s) := fun V hV => by
    obtain ⟨p0, p1, p2, p3, -⟩ := four_cells ((hV.block _ (by have := HS67.out; omega)).trans hA9)
    obtain ⟨q0, q1, q2, q3, -⟩ := four_cells ((hV.block _ hs9).trans g9)
    have ha := hoa9.later hV
    have hb := hob9.later hV
    have hfw := HFEW.out
    obtain ⟨fa, e1, e2, e3, e4, la⟩ := ha.lst (by omega)
    obtain ⟨fb, e5, e6, e7, e8, lb⟩ := hb.lst (by omega)
    cases e1
    cases e2
    cases e3
    cases e4
    cases e5
    cases e6
    cases e7
    cases e8
    exact ⟨hsw9.later hV, ⟨p0, p1, p2, p3⟩, ⟨q0, q1, q2, q3⟩, ha, hb, la, lb⟩
  have HW9 := Nu.hid hw9
  have HS9 : Hid (w8.heap.size < w9.heap.size ∧ w7.heap.size ≤ w8.heap.size) := ⟨hs9, hs89⟩
  obtain ⟨hz, ⟨p0, p1, p2, p3⟩, ⟨q0, q1, q2, q3⟩, -, -, hla, hlb⟩ := HALL.out w9 (Below.refl _ _)
  obtain ⟨y0, y1, y2, y3, y4, y5, y6⟩ := hz.cells
  have HSG9 := Nu.hid (HSG.out w9 hz)
  have HSF : Hid (∀ V, Below w9.heap.size w9 V → Calls Try.prog 12 #[.agg #[.slice a1 s.par.length k1, .slice a2 s.hei.length k2, .slice a3 s.ord.length k3, .slice a4 s.ori.length k4], .agg #[.slice b1 s.par.length d1, .slice b2 s.hei.length d2, .slice b3 s.ord.length d3, .slice b4 s.ori.length d4]] V fun e w' => e = .returned (.bool true) ∧ Below V.heap.size V w') := fun V hV => sameF_any ⟨a1, a2, a3, a4, k1, k2, k3, k4⟩ ⟨b1, b2, b3, b4, d1, d2, d3, d4⟩ s V (HALL.out V hV).2.2.2.2.2.1 (HALL.out V hV).2.2.2.2.2.2
  rw [hw9] at y0 y1 y2 y3 y4 y5 y6 p0 p1 p2 p3 q0 q1 q2 q3
  have eqP := eqEdge
  have t1 : ((-5 : Int) == -5 && (-6 : Int) == -6) = true := rfl
  have i5 : (es.length : Int) < (es.length : Int) + 1 := by omega
  clear hown hcase hb8 hl8 hb9 g9 hb79 hsw9 hA9 hoa9 hob9 hw9 hz hla hlb hs9 hs89
  go_wp2_with (go_at_call 23; rw [← HW9.out]; refine HSG9.out.mono ?_; rintro e w10 ⟨rfl, hb10⟩; refine Hid.out ?_)
  refine Nu.hid ?_
  obtain ⟨hz, ⟨p0, p1, p2, p3⟩, ⟨q0, q1, q2, q3⟩, -, -, hla, hlb⟩ := HALL.out w10 hb10
  obtain ⟨y0, y1, y2, y3, y4, y5, y6⟩ := hz.cells
  have HB10 := Nu.hid hb10
  clear hz hla hlb hb10
  go_wp2_with (go_at_call 12; refine (HSF.out _ HB10.out).mono ?_; rintro e w11 ⟨rfl, hb11⟩; refine Hid.out ?_)
  refine Nu.hid ?_
  have hbB11 : Below w9.heap.size w9 w11 := HB10.out.trans (hb11.mono HB10.out.size)
  have HB11 := Nu.hid hbB11
  have HCPB : Hid (∀ V, Below w9.heap.size w9 V → Calls Try.prog 16 #[.agg #[.slice b1 s.par.length d1, .slice b2 s.hei.length d2, .slice b3 s.ord.length d3, .slice b4 s.ori.length d4]] V (CopyFPost s V)) := fun V hV => copyF_any ⟨b1, b2, b3, b4, d1, d2, d3, d4⟩ s V (HALL.out V hV).2.2.2.2.2.2
  obtain ⟨hz, -, ⟨q0, q1, q2, q3⟩, -⟩ := HALL.out w11 hbB11
  clear hz hb11 hbB11 y0 y1 y2 y3 y4 y5 y6 p0 p1 p2 p3 eqP t1
  -- c
  go_wp2_with (go_at_call 16; refine (HCPB.out _ HB11.out).mono ?_; rintro e w12 ⟨v1, v2, v3, v4, rfl, hown, hb12⟩; refine Hid.out ?_)
  refine Nu.hid ?_
  obtain ⟨f, rfl, rfl, rfl, rfl, hl12⟩ := hown.lst (by have := HFEW.out; omega)
  obtain ⟨e1, e2, e3, e4, m1, m2, m3, m4⟩ := f
  obtain ⟨w13, hw13⟩ : ∃ w13, w13 = w12.alloc (.cells #[.slice e1 s.par.length m1, .slice e2 s.hei.length m2, .slice e3 s.ord.length m3, .slice e4 s.ori.length m4] 28) := ⟨_, rfl⟩
  have hb13 : Below w12.heap.size w12 w13 := by rw [hw13]; exact (Below.refl _ _).alloc (Nat.le_refl _) _
  have hC13 : w13.heap[w12.heap.size]? = some (.cells #[.slice e1 s.par.length m1, .slice e2 s.hei.length m2, .slice e3 s.ord.length m3, .slice e4 s.ori.length m4] 28 (0, 0)) := by rw [hw13]; exact heap_alloc_new w12 _
  have hbB13 : Below w9.heap.size w9 w13 := (HB11.out.trans (hb12.mono HB11.out.size)).trans (hb13.mono (Nat.le_trans HB11.out.size hb12.size))
  have HB13 := Nu.hid hbB13
  have HW13 := Nu.hid hw13
  have HC13 := Nu.hid hC13
  have HLC := Nu.hid (hl12.later hb13)
  have HOC := Nu.hid (hown.later hb13)
  have HSC : Hid (w9.heap.size ≤ w11.heap.size ∧ w11.heap.size ≤ w12.heap.size ∧ w12.heap.size < w13.heap.size) := ⟨HB11.out.size, hb12.size, lt_of_block hC13⟩
  have HCLT : Hid (∀ x ∈ [Value.slice e1 s.par.length m1, .slice e2 s.hei.length m2, .slice e3 s.ord.length m3, .slice e4 s.ori.length m4], ∀ b, x.ownBlock = some b → b < w12.heap.size) := fun x hx b hb => (hown.block_lt x hx b hb).2
  obtain ⟨hz, -, ⟨q0, q1, q2, q3⟩, -⟩ := HALL.out w13 hbB13
  rw [hw13] at q0 q1 q2 q3
  clear hz hown hb12 hl12 hb13 hC13 hbB13 hw13
  -- was
  go_wp2_with (go_at_call 16; rw [← HW13.out]; refine (HCPB.out _ HB13.out).mono ?_; rintro e w14 ⟨v1, v2, v3, v4, rfl, hown, hb14⟩; refine Hid.out ?_)
  refine Nu.hid ?_
  obtain ⟨f, rfl, rfl, rfl, rfl, hl14⟩ := hown.lst (by have := HFEW.out; omega)
  obtain ⟨r1, r2, r3, r4, t1, t2, t3, t4⟩ := f
  obtain ⟨w15, hw15⟩ : ∃ w15, w15 = w14.alloc (.cells #[.slice r1 s.par.length t1, .slice r2 s.hei.length t2, .slice r3 s.ord.length t3, .slice r4 s.ori.length t4] 28) := ⟨_, rfl⟩
  have hb15 : Below w14.heap.size w14 w15 := by rw [hw15]; exact (Below.refl _ _).alloc (Nat.le_refl _) _
  have hD15 : w15.heap[w14.heap.size]? = some (.cells #[.slice r1 s.par.length t1, .slice r2 s.hei.length t2, .slice r3 s.ord.length t3, .slice r4 s.ori.length t4] 28 (0, 0)) := by rw [hw15]; exact heap_alloc_new w14 _
  have hb1315 : Below w13.heap.size w13 w15 := hb14.trans (hb15.mono hb14.size)
  have hC15 : w15.heap[w12.heap.size]? = some (.cells #[.slice e1 s.par.length m1, .slice e2 s.hei.length m2, .slice e3 s.ord.length m3, .slice e4 s.ori.length m4] 28 (0, 0)) := (hb1315.block _ HSC.out.2.2).trans HC13.out
  have HB15 := Nu.hid (HB13.out.trans (hb1315.mono HB13.out.size))
  have HW15 := Nu.hid hw15
  have HC15 := Nu.hid hC15
  have HD15 := Nu.hid hD15
  have HB1315 := Nu.hid hb1315
  have HOD := Nu.hid (hown.later hb15)
  have HLC15 := Nu.hid (HLC.out.later hb1315)
  have HLD15 := Nu.hid (hl14.later hb15)
  have HSD : Hid (w13.heap.size ≤ w14.heap.size ∧ w14.heap.size < w15.heap.size) := ⟨hb14.size, lt_of_block hD15⟩
  obtain ⟨hz, -, ⟨q0, q1, q2, q3⟩, -⟩ := HALL.out w15 HB15.out
  obtain ⟨c0, c1, c2', c3, -⟩ := four_cells hC15
  rw [hw15] at q0 q1 q2 q3 c0 c1 c2' c3
  have hfo := HFEW.out.2.2.1
  have hsc : w12.heap.size < w14.heap.size := by have := HSC.out; have := HSD.out; omega
  have hsb : w8.heap.size < w14.heap.size := by have := HSC.out; have := HSD.out; have := HS9.out; omega
  clear hz hown hb14 hl14 hb15 hD15 hb1315 hC15 hw15
  -- full
  go_wp2_with (at_builtin; refine Hid.out ?_)
  refine Nu.hid ?_
  have hsz15 : w14.heap.size + 1 = w15.heap.size := by rw [HW15.out]; simp
  rw [← HW15.out, hsz15]
  refine wpList_copy_lst rfl _ _ rfl w15 e3 s.ord.length m3 s.ord rfl rfl HLC15.out.l3 (by omega) ?_
  intro gf cf w16 hrow16 hgf hltf hcf hb16
  have HROW16 := Nu.hid hrow16
  have HB16 := Nu.hid hb16
  have hsz16 := hb16.size
  have hsc16 : w12.heap.size < w16.heap.size := by have := HSD.out; omega
  have hsb16 : w8.heap.size < w16.heap.size := by have := HSD.out; omega
  have HGF : Hid (w15.heap.size ≤ gf) := hgf
  clear hrow16 hgf hltf hcf hb16 q0 q1 q2 q3 c0 c1 c2' c3
  go_wp2_with (at_builtin; refine Hid.out ?_)
  refine Nu.hid ?_
  refine wpList_append_own_at _ rfl _ _ 26 rfl w15.heap.size 3 j0 (.int .i64 0) 1 8 Try.underlying26 hj hj0 hj1 hj2 rfl (by decide) _ _ _ rfl (World.ownsRow.alloc HROW16.out _) ⟨w16.heap.size, 0, none⟩ 1 1 [.int .i64 77] rfl rfl (cell_one_new _ _ _) (by simp [Value.oneCell']) (by unfold maxLen; omega) (by omega) (by rw [World.size_alloc]; omega) ?_
  intro v' w17 hown17 hg17 _ hat17
  obtain ⟨g5, c5, rfl⟩ := own_succ hown17
  have hb17 : Below w15.heap.size w15 w17 := (HB16.out.alloc HB16.out.size _).grown hg17 (by rw [World.size_alloc]; omega) (fun k hk => by
    have e : gf = k := Option.some.inj hk
    have := HGF.out
    omega)
  have ho17 : OwnZ w17 w15.heap.size (.slice (some ⟨g5, 0, none⟩) (s.ord.length + 1) c5) (s.ord ++ [77]) := by
    unfold OwnZ
    rw [List.length_append, List.map_append]
    exact hown17
  obtain ⟨g5', c5', e5, hc77, hcap, hg5l, hg5u⟩ := ho17.row_snoc
  injection e5 with e5a e5b e5c
  injection e5a with e5a
  injection e5a with e5a
  subst e5a
  subst e5c
  have hC17 : w17.heap[w12.heap.size]? = some (.cells #[.slice e1 s.par.length m1, .slice e2 s.hei.length m2, .slice e3 s.ord.length m3, .slice e4 s.ori.length m4] 28 (0, 0)) := (hb17.block _ (by omega)).trans HC15.out
  obtain ⟨c0, c1, c2', c3, cf0⟩ := four_cells hC17
  obtain ⟨hz, -, ⟨q0, q1, q2, q3⟩, -⟩ := HALL.out w17 (HB15.out.trans (hb17.mono HB15.out.size))
  have hcapi : (s.ord.length : Int) ≤ (c5 : Int) := by omega
  have hlen0 : (0 : Int) ≤ (s.ord.length : Int) := by omega
  have hlen1 : (s.ord.length : Int) ≤ (s.ord.length : Int) + 1 := by omega
  obtain ⟨w18, hw18⟩ : ∃ w18, w18 = w17.setCell ⟨w12.heap.size, 2, none⟩ (.slice (some ⟨g5, 0, none⟩) s.ord.length c5) := ⟨_, rfl⟩
  have hC18 : w18.heap[w12.heap.size]? = some (.cells #[.slice e1 s.par.length m1, .slice e2 s.hei.length m2, .slice (some ⟨g5, 0, none⟩) s.ord.length c5, .slice e4 s.ori.length m4] 28 (0, 0)) := by
    rw [hw18, heap_setCell_same w17 w12.heap.size 2 _ _ _ hC17]
    simp
  have hoth : ∀ b, b ≠ w12.heap.size → w18.heap[b]? = w17.heap[b]? := fun b hb => by rw [hw18]; exact heap_setCell_other w17 ⟨w12.heap.size, 2, none⟩ b _ hb
  have hsz18 : w18.heap.size = w17.heap.size := by rw [hw18]; simp
  have hb18 : Below w9.heap.size w9 w18 := by
    rw [hw18]
    exact (HB15.out.trans (hb17.mono HB15.out.size)).setCell (p := ⟨w12.heap.size, 2, none⟩) (by show w9.heap.size ≤ w12.heap.size; have := HSC.out; omega) _
  have hD18 : w18.heap[w14.heap.size]? = some (.cells #[.slice r1 s.par.length t1, .slice r2 s.hei.length t2, .slice r3 s.ord.length t3, .slice r4 s.ori.length t4] 28 (0, 0)) := (hoth _ (by omega)).trans ((hb17.block _ HSD.out.2).trans HD15.out)
  have hkeep : ∀ b, b < w12.heap.size → w18.heap[b]? = w13.heap[b]? := fun b hb => by
    have h1 := HSC.out
    have h2 := HSD.out
    rw [hoth b (by omega), hb17.block b (by omega)]
    exact HB1315.out.block b (by omega)
  have hlC : LstF w18 ⟨e1, e2, some ⟨g5, 0, none⟩, e4, m1, m2, c5, m4⟩ s := by
    have hf := HFEW.out
    refine ⟨own_lst (HOC.out.o1.same fun b hb _ => hkeep b (HCLT.out _ (by simp) b hb)), own_lst (HOC.out.o2.same fun b hb _ => hkeep b (HCLT.out _ (by simp) b hb)), own_lst (OwnZ.front (x := 77) (ho17.same fun b hb _ => hoth b ?_)), own_lst (HOC.out.o4.same fun b hb _ => hkeep b (HCLT.out _ (by simp) b hb)), by omega, by omega, by omega, by omega⟩
    have e : g5 = b := Option.some.inj hb
    omega
  have hlD : LstF w18 ⟨r1, r2, r3, r4, t1, t2, t3, t4⟩ s := by
    have hf := HFEW.out
    have h1 := HSC.out
    have hod := HOD.out.same (fun g hg1 hg2 => (hoth g (by omega)).trans (hb17.block g hg2))
    exact ⟨own_lst hod.o1, own_lst hod.o2, own_lst hod.o3, own_lst hod.o4, by omega, by omega, by omega, by omega⟩
  have h77 : w18.cell? ⟨g5, s.ord.length, none⟩ = some (.int .i64 77) := by
    have e : w18.cell? ⟨g5, s.ord.length, none⟩ = w17.cell? ⟨g5, s.ord.length, none⟩ := by
      simp only [World.cell?]
      rw [hoth g5 (by omega)]
    rw [e]
    exact hc77
  have hg518 : g5 < w18.heap.size := by omega
  have hc18 : w12.heap.size < w18.heap.size := lt_of_block hC18
  have hd18 : w14.heap.size < w18.heap.size := lt_of_block hD18
  have HLATE : Hid (∀ V, Below w18.heap.size w18 V → Sw w n ao ca es bH bI g2 c2 w1.heap.size V ∧ (V.cell? ⟨w6.heap.size, 0, none⟩ = some (.slice a1 s.par.length k1) ∧ V.cell? ⟨w6.heap.size, 1, none⟩ = some (.slice a2 s.hei.length k2) ∧ V.cell? ⟨w6.heap.size, 2, none⟩ = some (.slice a3 s.ord.length k3) ∧ V.cell? ⟨w6.heap.size, 3, none⟩ = some (.slice a4 s.ori.length k4)) ∧ (V.cell? ⟨w8.heap.size, 0, none⟩ = some (.slice b1 s.par.length d1) ∧ V.cell? ⟨w8.heap.size, 1, none⟩ = some (.slice b2 s.hei.length d2) ∧ V.cell? ⟨w8.heap.size, 2, none⟩ = some (.slice b3 s.ord.length d3) ∧ V.cell? ⟨w8.heap.size, 3, none⟩ = some (.slice b4 s.ori.length d4)) ∧ (V.cell? ⟨w12.heap.size, 0, none⟩ = some (.slice e1 s.par.length m1) ∧ V.cell? ⟨w12.heap.size, 1, none⟩ = some (.slice e2 s.hei.length m2) ∧ V.cell? ⟨w12.heap.size, 2, none⟩ = some (.slice (some ⟨g5, 0, none⟩) s.ord.length c5) ∧ V.cell? ⟨w12.heap.size, 3, none⟩ = some (.slice e4 s.ori.length m4)) ∧ (V.cell? ⟨w14.heap.size, 0, none⟩ = some (.slice r1 s.par.length t1) ∧ V.cell? ⟨w14.heap.size, 1, none⟩ = some (.slice r2 s.hei.length t2) ∧ V.cell? ⟨w14.heap.size, 2, none⟩ = some (.slice r3 s.ord.length t3) ∧ V.cell? ⟨w14.heap.size, 3, none⟩ = some (.slice r4 s.ori.length t4)) ∧ V.cell? ⟨g5, s.ord.length, none⟩ = some (.int .i64 77) ∧ OwnF V W5.heap.size (.slice a1 s.par.length k1) (.slice a2 s.hei.length k2) (.slice a3 s.ord.length k3) (.slice a4 s.ori.length k4) s ∧ OwnF V w7.heap.size (.slice b1 s.par.length d1) (.slice b2 s.hei.length d2) (.slice b3 s.ord.length d3) (.slice b4 s.ori.length d4) s ∧ LstF V ⟨e1, e2, some ⟨g5, 0, none⟩, e4, m1, m2, c5, m4⟩ s ∧ LstF V ⟨r1, r2, r3, r4, t1, t2, t3, t4⟩ s) := fun V hV => by
    obtain ⟨h1, h2, h3, h4, h5, _, _⟩ := HALL.out V (hb18.trans (hV.mono hb18.size))
    obtain ⟨p0, p1, p2, p3, -⟩ := four_cells ((hV.block _ hc18).trans hC18)
    obtain ⟨r0, r1', r2', r3', -⟩ := four_cells ((hV.block _ hd18).trans hD18)
    exact ⟨h1, h2, h3, ⟨p0, p1, p2, p3⟩, ⟨r0, r1', r2', r3'⟩, (hV.cell (p := ⟨g5, s.ord.length, none⟩) hg518).trans h77, h4, h5, hlC.later hV, hlD.later hV⟩
  have HW18 := Nu.hid hw18
  have HFIN : Hid (∀ V, Below w18.heap.size w18 V → Below w.heap.size w V) := fun V hV => (HLATE.out V hV).1.bel
  have HDV : Hid (∀ V, Below w18.heap.size w18 V → Calls Try.prog 14 #[.agg #[.int .i64 n, .slice (some ⟨g2, 0, none⟩) es.length c2], .agg #[.slice e1 s.par.length m1, .slice e2 s.hei.length m2, .slice (some ⟨g5, 0, none⟩) s.ord.length c5, .slice e4 s.ori.length m4]] V (BoolPost (IsVF n es s) V)) := fun V hV => by
    have := dvalid_any n (some ⟨g2, 0, none⟩) c2 es ⟨e1, e2, some ⟨g5, 0, none⟩, e4, m1, m2, c5, m4⟩ s V (HLATE.out V hV).1.edges (by omega) (HLATE.out V hV).2.2.2.2.2.2.2.2.1
    unfold graphVal at this
    exact this
  have HBK : Hid (∀ V, Below w18.heap.size w18 V → Calls Try.prog 17 #[.agg #[.slice e1 s.par.length m1, .slice e2 s.hei.length m2, .slice (some ⟨g5, 0, none⟩) s.ord.length c5, .slice e4 s.ori.length m4], .int .i64 0] V fun e w' => e = .returned (.bool (Df.back s 0)) ∧ Below V.heap.size V w') := fun V hV => back_any ⟨e1, e2, some ⟨g5, 0, none⟩, e4, m1, m2, c5, m4⟩ s 0 V (HLATE.out V hV).2.2.2.2.2.2.2.2.1
  have HSF2 : Hid (∀ V, Below w18.heap.size w18 V → Calls Try.prog 12 #[.agg #[.slice e1 s.par.length m1, .slice e2 s.hei.length m2, .slice (some ⟨g5, 0, none⟩) s.ord.length c5, .slice e4 s.ori.length m4], .agg #[.slice r1 s.par.length t1, .slice r2 s.hei.length t2, .slice r3 s.ord.length t3, .slice r4 s.ori.length t4]] V fun e w' => e = .returned (.bool true) ∧ Below V.heap.size V w') := fun V hV => sameF_any ⟨e1, e2, some ⟨g5, 0, none⟩, e4, m1, m2, c5, m4⟩ ⟨r1, r2, r3, r4, t1, t2, t3, t4⟩ s V (HLATE.out V hV).2.2.2.2.2.2.2.2.1 (HLATE.out V hV).2.2.2.2.2.2.2.2.2
  obtain ⟨hz', -, ⟨u0, u1, u2, u3⟩, ⟨p0, p1, p2, p3⟩, -⟩ := HLATE.out w18 (Below.refl _ _)
  obtain ⟨y0, y1, y2, y3, y4, y5, y6⟩ := hz'.cells
  rw [hw18] at y0 y1 y2 y3 y4 y5 y6 u0 u1 u2 u3 p0 p1 p2 p3
  clear hown17 hg17 hat17 hb17 ho17 hc77 hC17 hz hC18 hoth hb18 hD18 hkeep hlC hlD h77 hw18 hz'
  go_wp2_with (go_at_call 14; rw [← HW18.out]; refine (HDV.out _ (Below.refl _ _)).mono ?_; rintro e w19 ⟨bv, rfl, -, hb19⟩; refine Hid.out ?_)
  refine Nu.hid ?_
  obtain ⟨hz', -, -, ⟨p0, p1, p2, p3⟩, -⟩ := HLATE.out w19 hb19
  have HB19 := Nu.hid hb19
  clear hz' hb19 y0 y1 y2 y3 y4 y5 y6 u0 u1 u2 u3 c0 c1 c2' c3 q0 q1 q2 q3
  go_wp2_with (go_at_call 17; refine (HBK.out _ HB19.out).mono ?_; rintro e w20 ⟨rfl, hb20⟩; refine Hid.out ?_)
  refine Nu.hid ?_
  have hb1820 : Below w18.heap.size w18 w20 := HB19.out.trans (hb20.mono HB19.out.size)
  have HB20 := Nu.hid hb1820
  obtain ⟨hz', -, ⟨u0, u1, u2, u3⟩, ⟨p0, p1, p2, p3⟩, ⟨r0, r1', r2', r3'⟩, h77, -⟩ := HLATE.out w20 hb1820
  clear hz' hb20 hb1820
  go_wp2_with (go_at_call 12; refine (HSF2.out _ HB20.out).mono ?_; rintro e w21 ⟨rfl, hb21⟩; refine Hid.out ?_)
  refine Nu.hid ?_
  have hb1821 : Below w18.heap.size w18 w21 := HB20.out.trans (hb21.mono HB20.out.size)
  have HB21 := Nu.hid hb1821
  obtain ⟨hz', -, ⟨u0, u1, u2, u3⟩, -, -, h77, -⟩ := HLATE.out w21 hb1821
  obtain ⟨y0, y1, y2, y3, y4, y5, y6⟩ := hz'.cells
  have HSG21 := Nu.hid (HSG.out w21 hz')
  have i7 : (s.ord.length : Int) < (s.ord.length : Int) + 1 := by omega
  clear hz' hb21 hb1821 p0 p1 p2 p3 r0 r1' r2' r3'
  go_wp2_with (go_at_call 23; refine HSG21.out.mono ?_; rintro e w22 ⟨rfl, hb22⟩; refine Hid.out ?_)
  refine Nu.hid ?_
  have hb1822 : Below w18.heap.size w18 w22 := HB21.out.trans (hb22.mono HB21.out.size)
  obtain ⟨hz', ⟨p0, p1, p2, p3⟩, ⟨u0, u1, u2, u3⟩, -, -, -, hoa, hob, -, -⟩ := HLATE.out w22 hb1822
  have hsz22 := hb1822.size
  have hs9' := HS9.out
  have hs67 := HS67.out
  have hrows := rows_eight hob hoa (by omega) HAL.out (by have := hz'.bel.size; omega)
  have hap := apart7_any w22.heap.size 8 8 _ _ W5.heap.size _ hrows (by simp) (by rw [World.size_alloc]; omega) (by omega) (fun l hl => by
    have hf := HFEW.out
    simp only [List.mem_append, List.mem_cons, List.not_mem_nil, or_false] at hl
    rcases hl with (rfl | rfl | rfl | rfl) | (rfl | rfl | rfl | rfl) <;> omega)
  have HAP := Nu.hid hap
  have HEND : Hid (∀ V, Wrote (inV ([Value.slice b1 s.par.length d1, .slice b2 s.hei.length d2, .slice b3 s.ord.length d3, .slice b4 s.ori.length d4] ++ [Value.slice a1 s.par.length k1, .slice a2 s.hei.length k2, .slice a3 s.ord.length k3, .slice a4 s.ori.length k4])) (w22.alloc (.cells #[.slice b1 s.par.length d1, .slice b2 s.hei.length d2, .slice b3 s.ord.length d3, .slice b4 s.ori.length d4, .slice a1 s.par.length k1, .slice a2 s.hei.length k2, .slice a3 s.ord.length k3, .slice a4 s.ori.length k4] 26)) V → Below w.heap.size w V) := fun V hV => by
    have h0 : Below w.heap.size w (w22.alloc (.cells #[.slice b1 s.par.length d1, .slice b2 s.hei.length d2, .slice b3 s.ord.length d3, .slice b4 s.ori.length d4, .slice a1 s.par.length k1, .slice a2 s.hei.length k2, .slice a3 s.ord.length k3, .slice a4 s.ori.length k4] 26)) := (HFIN.out _ hb1822).alloc (HFIN.out _ hb1822).size _
    refine h0.trans (hV.below h0.size fun b hb => ?_)
    obtain ⟨u, x, hx, hxb⟩ := hb
    have hm := List.mem_of_getElem? hx
    have h5 := HLT5.out.1
    rcases List.mem_append.1 hm with hm | hm
    · have := (hob.block_lt x hm b hxb).1
      omega
    · have := (hoa.block_lt x hm b hxb).1
      omega
  clear hz' hb22 hb1822 hoa hob hrows hap y0 y1 y2 y3 y4 y5 y6 h77
  go_wp2_with (go_at_call 24; refine HAP.out.mono ?_; rintro e w23 ⟨rfl, hw23⟩; have HW23 := Nu.hid hw23; clear hw23)
  go_ret
  exact ⟨rfl, HEND.out _ HW23.out⟩

set_option maxRecDepth 100000 in
/-- What the walk gives, for every argument and every world. -/
theorem contract (H : Type) (enc : TypeId × Value → H) (W : World) (base : Nat) (args : Array Value) (ds gs : List (DataW H)) (before : List MemPlace)
    (hval : ∀ (j : Nat) t v, Try.f8.params[j]? = some t → args[j]? = some v → Value.okWide Try.prog W .any base t v)
    (hW : DataW.Whole enc Try.prog Try.f8.params.toList Rows.dfsOwnSpec.vars false W args.toList ds gs before)
    (hsz : (DataW.weightsEach Try.prog (Try.f8.params.toList ++ (OpenSpec.ofChange Rows.dfsOwnSpec).bare.plain.varTypes Try.prog) (ds ++ gs)).all (· ≤ reachBytes) = true)
    :
    Calls Try.prog 8 args W fun e W' => ∃ v, e = .returned v ∧ Rows.dfsOwnSpec.post enc Try.prog Try.f8 false true false false W args v W' := by
  have hW' := hW
  obtain ⟨p, q, hA0, hV, rfl, hfz, hnd⟩ := hW
  have hA : DataW.TrodAll enc Try.prog W 0 (fun _ => true) true Try.f8.params.toList args.toList ds p := hA0
  rw [Try.params8] at hA hval hsz
  obtain ⟨v0, vs0, d0, ds0, p0, q0, hargs, rfl, rfl, h0, r0⟩ := trodAll_cons hA
  obtain ⟨rfl, rfl, rfl⟩ := trodAll_nil r0
  obtain rfl : args = #[v0] := by cases args; simp_all
  obtain ⟨rfl, rfl⟩ := trodVars_none hV
  have k0 := h0
  have lt0 : ∀ x ∈ p0, x.block < W.heap.size := by obtain ⟨m, hm⟩ := k0; exact DataW.trod_lt m _ _ _ hm
  obtain ⟨n0, a0, cap0, q0, rfl, x0, w0, u0⟩ := graph_of_trod (j := 0) (hval 0 24 v0 rfl rfl) h0 hsz rfl rfl
  clear hA0
  refine (walk n0 a0 cap0 q0 W x0 w0 u0).mono fun e W' ⟨he, bel⟩ => ?_
  subst he
  exact ⟨_, rfl, _, _, _, [], _, [], hW', trodAll_mk1 (shut_bool Try.underlying4 _), (trodAll_cons_mk (Below.trod laidOut (by kernel_rfl) (of_decide_eq_true (by kernel_rfl)) k0 bel lt0) trodAll_mk0), rfl, bel.frame _, fun h => by cases h⟩

theorem laid_met (os : Os) : laidMet Try.prog Rows.dfsOwnRow.laid ((settled os).forCall (fun _ _ => 0) ⟨#[], #[.agg #[.int .i64 0, .slice none 0 0]], []⟩).memory :=
  laidMet_of_run' 100 (by kernel_rfl) (by kernel_rfl)
theorem reads (os : Os) {H : Type} (enc : TypeId × Value → H) : ∃ places, DataW.whole enc Try.prog ((settled os).forCall (fun _ _ => 0) ⟨#[], #[.agg #[.int .i64 0, .slice none 0 0]], []⟩).memory Try.f8.params.toList Rows.dfsOwnSpec.vars false (#[.agg #[.int .i64 0, .slice none 0 0]] : Array Value).toList 8 = some ([.agg [.lit (.int .i64 0), .nil]], [], places) :=
  ⟨[], by kernel_rfl⟩

set_option maxRecDepth 100000 in
theorem lifted (os : Os) (started : os.Started) (H : Type) (enc : TypeId × Value → H) (F : Stop.Interp) :
    ReturnsInHanded {} Try.checked os 8 .any ((OpenSpec.ofChange Rows.dfsOwnSpec).preRow enc Try.prog Try.f8 Rows.dfsOwnRow.domain false Rows.dfsOwnRow.laid) (((OpenSpec.ofChange Rows.dfsOwnSpec).at F).post enc Try.prog Try.f8 false true false false) := by
  obtain ⟨places, hx⟩ := reads os enc
  refine returnsInHanded_of_row (C := Try.checked) (s := (OpenSpec.ofChange Rows.dfsOwnSpec)) own started (by kernel_rfl) Try.func8
    (witness_row_at (enc := enc) (C := Try.checked) false (settled os) #[.agg #[.int .i64 0, .slice none 0 0]] rfl (by kernel_rfl) (by kernel_rfl) (by kernel_rfl)
      (OpenSpec.preRow_of_cond 8 hx (by kernel_rfl) (fun k hk => by cases hk) (by kernel_rfl) (laid_met os))) ?_
  intro W base args ds gs before hval hW _ _ hsz _ _ _
  exact contract H enc W base args ds gs before hval hW hsz 

theorem said : Rows.DfsOwnSaid :=
  OpenClaim.holds_of_cond 8 Try.f8 rfl rfl rfl rfl rfl rfl rfl ⟨rfl, rfl, rfl, rfl, rfl⟩ rfl rfl rfl rfl rfl (by kernel_rfl) Try.func8 (by kernel_rfl)
    (of_decide_eq_true (by kernel_rfl)) (by unfold Func.isWrapper; first | (rw [if_pos (by decide +kernel)]; kernel_rfl) | (rw [if_neg (by decide +kernel)]; exact ⟨rfl, rfl⟩))
    (fun os started H enc _ F => by rw [OpenClaim.pre_eq_preRow]; exact lifted os started H enc F)

end lawDOwn

theorem dfsOwn_holds : Rows.DfsOwnSaid := lawDOwn.said

#print axioms dfsOwn_holds
end Go.Proofs.Ytponmjipbcmlhaa
