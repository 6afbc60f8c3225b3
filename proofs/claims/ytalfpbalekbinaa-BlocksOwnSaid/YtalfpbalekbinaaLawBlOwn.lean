/-
  Proved: for every graph and number the law BlocksOwn answers true, and the graph reads afterwards as before. No condition.
-/
import Derived.Test.YtalfpbalekbinaaBlMk
import Derived.Test.YtalfpbalekbinaaMg42
import Derived.Deep.RegionHeld3
namespace Go.Proofs.Ytalfpbalekbinaa
open Go.ChangeShapes Go.WideShapes Go.ChangeAt Go.RowKit
namespace lawOwn

/-- The graph that came in, the copy with room behind it. -/
structure Ho9 (w : World) (n : Int) (ao : Option Addr) (ca : Nat) (es : List (Int × Int)) (bh gf cf B : Nat) (W : World) : Prop where
  g : Gr9 w n ao ca es W
  box : W.heap[bh]? = some (.cells #[.int .i64 n, .slice (some ⟨gf, 0, none⟩) es.length cf] 24 (0, 0))
  fu : OwnE W B (.slice (some ⟨gf, 0, none⟩) (es.length + 2) cf) (es ++ [(-1, -2), (-3, -4)])

section
variable {w W W' : World} {n : Int} {ao : Option Addr} {ca : Nat} {es : List (Int × Int)} {bh gf cf B : Nat}
theorem Ho9.later (h : Ho9 w n ao ca es bh gf cf B W) (hb : Below W.heap.size W W') : Ho9 w n ao ca es bh gf cf B W' :=
  ⟨h.g.later hb, (hb.block _ (lt_of_block h.box)).trans h.box, h.fu.below hb (Nat.le_refl _)⟩
theorem Ho9.cells (h : Ho9 w n ao ca es bh gf cf B W) : W.cell? ⟨bh, 0, none⟩ = some (.int .i64 n) ∧ W.cell? ⟨bh, 1, none⟩ = some (.slice (some ⟨gf, 0, none⟩) es.length cf) := by
  obtain ⟨x0, x1, -⟩ := pair_cells h.box
  exact ⟨x0, x1⟩
theorem Ho9.all (h : Ho9 w n ao ca es bh gf cf B W) : EdgesAt W (some ⟨gf, 0, none⟩) (es ++ [(-1, -2), (-3, -4)]) := by
  obtain ⟨a, c, e, _, _, h1, _⟩ := h.fu.form
  injection e with e1 e2 e3
  rw [e1]
  exact h1
theorem Ho9.edges (h : Ho9 w n ao ca es bh gf cf B W) : EdgesAt W (some ⟨gf, 0, none⟩) es := fun j p hj => h.all j p (by rw [List.getElem?_append_left (List.getElem?_eq_some_iff.1 hj).1]; exact hj)
end

theorem own_cap {w : World} {B g k c : Nat} {es : List (Int × Int)} (h : OwnE w B (.slice (some ⟨g, 0, none⟩) k c) es) : es.length ≤ c := by
  rcases h.2 with ⟨h, _⟩ | ⟨g', cap, cur, e, hb, hh, hc, _⟩
  · cases h
  · injection e with _ _ e3
    omega
theorem field_edges (x0 : Value) (a : Option Addr) (m c : Nat) (W : World) : (Instr.field 24 (.agg #[x0, .slice a m c]) 1).run Try.prog W = .ok (.slice a m c) W := by kernel_rfl

set_option maxRecDepth 100000 in
set_option maxHeartbeats 16000000 in
theorem walk (n : Int) (ao : Option Addr) (ca : Nat) (es : List (Int × Int)) (k : Int) (w : World) (_ : -9223372036854775808 ≤ n ∧ n ≤ 9223372036854775807) (hq : PairsIn w ao es.length ca es) (hle : es.length * 16 ≤ 140737488351232) (_ : (Lit.int .i64 k).wf = true) :
    Calls Try.prog 7 #[.agg #[.int .i64 n, .slice ao es.length ca], .int .i64 k] w fun e w' => e = .returned (.bool true) ∧ Below w.heap.size w w' := by
  obtain ⟨i0, hi, hz0, hz1, hz2⟩ := info_parts Try.infoEdge
  have hG0 : Gr9 w n ao ca es _ := .start hq.hat
  have HG0 := Nu.hid hG0
  have HO : Hid (∀ a c W, EdgesAt W a es → Calls Try.prog 9 #[.agg #[.int .i64 n, .slice a es.length c]] W (OfS (Bl.of9 n es) W)) := fun a c W h => pof_is n a c es W h (by omega)
  have HD : Hid (∀ a c W, EdgesAt W a es → Calls Try.prog 11 #[.agg #[.int .i64 n, .slice a es.length c]] W (OfS (Bl.of9 n es) W)) := fun a c W h => dof_is n a c es W h (by omega)
  have HOC : Hid (∀ a c W, EdgesAt W a es → Calls Try.prog 13 #[.agg #[.int .i64 n, .slice a es.length c]] W (LiS (Bl.cu9 n es) W)) := fun a c W h => pcuts_is n a c es W h (by omega)
  have HDC : Hid (∀ a c W, EdgesAt W a es → Calls Try.prog 14 #[.agg #[.int .i64 n, .slice a es.length c]] W (LiS (Bl.cu9 n es) W)) := fun a c W h => dcuts_is n a c es W h (by omega)
  have HOB : Hid (∀ a c W, EdgesAt W a es → Calls Try.prog 15 #[.agg #[.int .i64 n, .slice a es.length c]] W (LiS (Bl.bs9 n es) W)) := fun a c W h => pbridges_is n a c es W h (by omega)
  have HOK : Hid (∀ a c W, EdgesAt W a es → Calls Try.prog 17 #[.agg #[.int .i64 n, .slice a es.length c], .int .i64 k] W (BkS (Bl.bl9 n es k) W)) := fun a c W h => pblock_is n a c es W h (by omega) k
  have HDK : Hid (∀ a c W, EdgesAt W a es → Calls Try.prog 18 #[.agg #[.int .i64 n, .slice a es.length c], .int .i64 k] W (DkS (Bl.bl9 n es k) W)) := fun a c W h => dblock_is n a c es W h (by omega) k
  have l1 := Bl.of9_length n es
  have l2 := Bl.cu9_length n es
  obtain ⟨l3, l4⟩ := Bl.bl9_length n k es
  obtain ⟨⟨L1, r1, z1⟩, hr1⟩ : ∃ r, Bl.of9 n es = r := ⟨_, rfl⟩
  obtain ⟨⟨L2, z2⟩, hr2⟩ : ∃ r, Bl.cu9 n es = r := ⟨_, rfl⟩
  obtain ⟨⟨L3, z3⟩, hr3⟩ : ∃ r, Bl.bs9 n es = r := ⟨_, rfl⟩
  obtain ⟨⟨E, L4, z4⟩, hr4⟩ : ∃ r, Bl.bl9 n es k = r := ⟨_, rfl⟩
  rw [hr1] at HO HD l1
  rw [hr2] at HOC HDC l2
  rw [hr3] at HOB
  rw [hr4] at HOK HDK l3 l4
  dsimp only at l1 l2 l3 l4
  have hle' : es.length * 16 ≤ 140737488355328 := by omega
  clear hq hG0 hr1 hr2 hr3 hr4
  go_enter Try.func7, Try.ntmps7
  go_wp2_with (go_at_call 8; refine (wakes_any _).mono ?_; rintro e w1 ⟨rfl, hb⟩; refine Hid.out ?_)
  refine Nu.hid ?_
  have G1 := Nu.hid (HG0.out.later hb)
  obtain ⟨x0, x1⟩ := G1.out.cells
  have HCP : Hid (Calls Try.prog 10 #[.agg #[.int .i64 n, .slice ao es.length ca]] w1 fun e w' => ∃ a c, e = .returned (.agg #[.int .i64 n, .slice a es.length c]) ∧ OwnE w' w1.heap.size (.slice a es.length c) es ∧ Below w1.heap.size w1 w') := (rcopy_any n ao ca es w1 G1.out.edges hle').mono (by
    rintro e w' ⟨v, rfl, h1, h2⟩
    obtain ⟨a, c, rfl, _⟩ := h1.form
    exact ⟨a, c, rfl, h1, h2⟩)
  clear hb HG0
  have hfld := field_edges
  go_wp2_with (first
    | (go_at_call 10; refine HCP.out.mono ?_; rintro e w2 ⟨a2, c2, rfl, ho2, hb2⟩; have HO2 := Nu.hid ho2; have G2 := Nu.hid (G1.out.later hb2); have hs2 := hb2.size; clear ho2 hb2)
    | (at_builtin; refine wpList_append_own _ rfl _ _ 22 rfl w1.heap.size 49 i0 (.agg #[.int .i64 0, .int .i64 0]) 2 16 Try.underlying22 hi hz0 hz1 hz2 rfl (by decide) _ _ _ rfl (HO2.out.alloc _) ⟨w2.heap.size, 0, none⟩ 2 2 [.int .i64 (-1), .int .i64 (-2), .int .i64 (-3), .int .i64 (-4)] rfl rfl (World.news_of_block (heap_alloc_new w2 _)) (by simp [Value.oneCell']) (by unfold maxLen; omega) (by omega) (by simp; omega) ?_; refine Hid.out ?_))
  refine Nu.hid ?_
  intro v' w3 hrow3 hg3 _
  obtain ⟨gf, cf, hv'⟩ : ∃ gf cf, v' = .slice (some ⟨gf, 0, none⟩) (es.length + 2) cf := by
    rcases hrow3.2 with ⟨_, h0⟩ | ⟨g, cap, cur, e, _⟩
    · omega
    · exact ⟨g, cap, e⟩
  subst hv'
  have ho3 : OwnE w3 w1.heap.size (.slice (some ⟨gf, 0, none⟩) (es.length + 2) cf) (es ++ [(-1, -2), (-3, -4)]) := by
    have e : flatE (es ++ [(-1, -2), (-3, -4)]) = flatE es ++ [.int .i64 (-1), .int .i64 (-2), .int .i64 (-3), .int .i64 (-4)] := by simp [flatE]
    unfold OwnE
    rw [e, List.length_append]
    exact hrow3
  have G3 : Hid (Gr9 w n ao ca es w3) := by
    have h1 := G2.out.later (W' := w2.alloc (.cells #[.int .i64 (-1), .int .i64 (-2), .int .i64 (-3), .int .i64 (-4)] 49)) ((Below.refl _ _).alloc (Nat.le_refl _) _)
    have hbx := lt_of_block G1.out.box
    have hlw := G1.out.low.size
    refine ⟨h1.at_, h1.low.grown hg3 (by simp; omega) (fun b hb => by have := (World.ownsRow.lt HO2.out b hb).1; omega), ?_⟩
    rw [hg3.block w.heap.size (by simp; omega) (fun e => by have := (World.ownsRow.lt HO2.out _ e.symm).1; omega)]
    exact h1.box
  have HO3 := Nu.hid ho3
  have hgfl := World.ownsRow.lt ho3 gf rfl
  have hcf := own_cap ho3
  have hs1 : w.heap.size < w1.heap.size := lt_of_block G1.out.box
  clear hrow3 hg3 ho3 hfld x0 x1 HO2 G1 G2
  obtain ⟨x0, x1⟩ := G3.out.cells
  have hbr : Below w3.heap.size w3 w3.drew := (Below.refl _ _).drew
  have HS : Hid (∀ W, Below w3.heap.size w3 W → (W.cell? ⟨w.heap.size, 0, none⟩ = some (.int .i64 n) ∧ Below w3.heap.size w3 W)) := fun W hW => ⟨(G3.out.later hW).cells.1, hW⟩
  have i1 : (0 : Int) ≤ (es.length : Int) := by omega
  have i2 : (es.length : Int) ≤ (es.length : Int) + 2 := by omega
  have i3 : (es.length : Int) ≤ (cf : Int) := by simp at hcf; omega
  go_wp2_with fail
  go_region_held3 (fun W => W.cell? ⟨w.heap.size, 0, none⟩ = some (.int .i64 n) ∧ Below w3.heap.size w3 W)
    (exact HS.out _ (by first | assumption | exact hbr | exact ((Below.refl w3.heap.size w3).alloc (Nat.le_refl _) _).drew))
    (fail)
  obtain ⟨w4, hw4⟩ : ∃ w4, w4 = (w3.alloc (.cells #[.int .i64 n, .slice (some ⟨gf, 0, none⟩) es.length cf] 24)).drew := ⟨_, rfl⟩
  have hb4 : Below w3.heap.size w3 w4 := by rw [hw4]; exact ((Below.refl _ _).alloc (Nat.le_refl _) _).drew
  have H4 : Hid (Ho9 w n ao ca es w3.heap.size gf cf w1.heap.size w4) := ⟨G3.out.later hb4, by rw [hw4]; exact heap_alloc_new w3 _, HO3.out.below hb4 (Nat.le_refl _)⟩
  rw [← hw4]
  obtain ⟨bh, hbh⟩ : ∃ bh, w3.heap.size = bh := ⟨_, rfl⟩
  rw [hbh] at H4 ⊢
  have hbh4 : bh < w4.heap.size := lt_of_block H4.out.box
  have hgf4 : gf < bh := by omega
  have hw1bh : w1.heap.size ≤ bh := by omega
  clear x0 x1 hbr HS i1 i2 i3 hw4 hb4 hbh G3 HO3
  obtain ⟨y0, y1⟩ := H4.out.cells
  go_wp2_with (go_at_call 9; refine (HO.out _ _ _ H4.out.edges).mono ?_; rintro e w5 ⟨a5, c5, rfl, ho5, hb5⟩; refine Hid.out ?_)
  refine Nu.hid ?_
  try dsimp only
  have A5 := Nu.hid ho5
  have H5 := Nu.hid (H4.out.later hb5)
  have B5 := Nu.hid hb5
  clear y0 y1 hb5 ho5 H4
  obtain ⟨y0, y1⟩ := H5.out.cells
  go_wp2_with (go_at_call 9; refine (HO.out _ _ _ H5.out.edges).mono ?_; rintro e w6 ⟨a6, c6, rfl, ho6, hb6⟩; refine Hid.out ?_)
  refine Nu.hid ?_
  try dsimp only
  have A6 := Nu.hid ho6
  have H6 := Nu.hid (H5.out.later hb6)
  have B6 := Nu.hid hb6
  clear y0 y1 hb6 ho6 H5
  obtain ⟨y0, y1⟩ := H6.out.cells
  go_wp2_with (go_at_call 13; refine (HOC.out _ _ _ H6.out.edges).mono ?_; rintro e w7 ⟨a7, c7, rfl, ho7, hb7⟩; refine Hid.out ?_)
  refine Nu.hid ?_
  try dsimp only
  have A7 := Nu.hid ho7
  have H7 := Nu.hid (H6.out.later hb7)
  have B7 := Nu.hid hb7
  clear y0 y1 hb7 ho7 H6
  obtain ⟨y0, y1⟩ := H7.out.cells
  go_wp2_with (go_at_call 13; refine (HOC.out _ _ _ H7.out.edges).mono ?_; rintro e w8 ⟨a8, c8, rfl, ho8, hb8⟩; refine Hid.out ?_)
  refine Nu.hid ?_
  try dsimp only
  have A8 := Nu.hid ho8
  have H8 := Nu.hid (H7.out.later hb8)
  have B8 := Nu.hid hb8
  clear y0 y1 hb8 ho8 H7
  obtain ⟨y0, y1⟩ := H8.out.cells
  go_wp2_with (go_at_call 17; refine (HOK.out _ _ _ H8.out.edges).mono ?_; rintro e w9 ⟨ea9, ec9, a9, c9, rfl, hoe9, ho9, hne9, hb9⟩; refine Hid.out ?_)
  refine Nu.hid ?_
  try dsimp only
  have A9 := Nu.hid ho9
  have E9 := Nu.hid hoe9
  have N9 := Nu.hid hne9
  have H9 := Nu.hid (H8.out.later hb9)
  have B9 := Nu.hid hb9
  clear y0 y1 hb9 ho9 hoe9 hne9 H8
  obtain ⟨w9b, hw9⟩ : ∃ W, W = w9.alloc (.cells #[.int .i64 (L4.length : Int), .slice ea9 E.length ec9] 24) := ⟨_, rfl⟩
  have hb9b : Below w9.heap.size w9 w9b := by rw [hw9]; exact (Below.refl _ _).alloc (Nat.le_refl _) _
  have X9 : Hid (w9b.heap[w9.heap.size]? = some (.cells #[.int .i64 (L4.length : Int), .slice ea9 E.length ec9] 24 (0, 0))) := by
    show _ = _
    rw [hw9]
    exact heap_alloc_new w9 _
  have H9b := Nu.hid (H9.out.later hb9b)
  have B9b := Nu.hid hb9b
  have W9 := Nu.hid hw9
  clear hw9 hb9b H9
  obtain ⟨y0, y1⟩ := H9b.out.cells
  rw [W9.out] at y0 y1
  go_wp2_with (go_at_call 17; rw [← W9.out]; refine (HOK.out _ _ _ H9b.out.edges).mono ?_; rintro e w10 ⟨ea10, ec10, a10, c10, rfl, hoe10, ho10, hne10, hb10⟩; refine Hid.out ?_)
  refine Nu.hid ?_
  try dsimp only
  have A10 := Nu.hid ho10
  have E10 := Nu.hid hoe10
  have H10 := Nu.hid (H9b.out.later hb10)
  have B10 := Nu.hid hb10
  clear y0 y1 hb10 ho10 hoe10 H9b
  obtain ⟨w10b, hw10⟩ : ∃ W, W = w10.alloc (.cells #[.int .i64 (L4.length : Int), .slice ea10 E.length ec10] 24) := ⟨_, rfl⟩
  have hb10b : Below w10.heap.size w10 w10b := by rw [hw10]; exact (Below.refl _ _).alloc (Nat.le_refl _) _
  have X10 : Hid (w10b.heap[w10.heap.size]? = some (.cells #[.int .i64 (L4.length : Int), .slice ea10 E.length ec10] 24 (0, 0))) := by
    show _ = _
    rw [hw10]
    exact heap_alloc_new w10 _
  have H10b := Nu.hid (H10.out.later hb10b)
  have B10b := Nu.hid hb10b
  have W10 := Nu.hid hw10
  clear hw10 hb10b H10
  clear hne10
  obtain ⟨y0, y1⟩ := H10b.out.cells
  rw [W10.out] at y0 y1
  go_wp2_with (go_at_call 15; rw [← W10.out]; refine (HOB.out _ _ _ H10b.out.edges).mono ?_; rintro e w11 ⟨a11, c11, rfl, ho11, hb11⟩; refine Hid.out ?_)
  refine Nu.hid ?_
  try dsimp only
  have A11 := Nu.hid ho11
  have H11 := Nu.hid (H10b.out.later hb11)
  have B11 := Nu.hid hb11
  clear y0 y1 hb11 ho11 H10b
  obtain ⟨y0, y1⟩ := H11.out.cells
  obtain ⟨x0, x1⟩ := H11.out.g.cells
  have HEQ := Nu.hid (equal_two (n := n) (ca := cf) (cb := ca) H11.out.edges H11.out.g.edges (by omega))
  go_wp2_with (go_at_call 19; refine HEQ.out.mono ?_; rintro e w12 ⟨rfl, hb12⟩; refine Hid.out ?_)
  refine Nu.hid ?_
  have H12 := Nu.hid (H11.out.later hb12)
  have B12 := Nu.hid hb12
  clear y0 y1 x0 x1 hb12 HEQ H11
  obtain ⟨fb, fo, efo, f0, f1⟩ := H12.out.all es.length (-1, -2) (by simp)
  cases efo
  obtain ⟨fb, fo, efo, f2, f3⟩ := H12.out.all (es.length + 1) (-3, -4) (by simp)
  cases efo
  rw [Nat.zero_add] at f0 f1 f2 f3
  obtain ⟨x0, x1⟩ := H12.out.g.cells
  have i1 : (0 : Int) ≤ (es.length : Int) := by omega
  have i2 : (es.length : Int) < (es.length : Int) + 2 := by omega
  have i3 : (0 : Int) ≤ (es.length : Int) + 1 := by omega
  have i4 : (es.length : Int) + 1 < (es.length : Int) + 2 := by omega
  go_wp2_with (go_at_call 11; refine (HD.out _ _ _ H12.out.g.edges).mono ?_; rintro e w13 ⟨a13, c13, rfl, ho13, hb13⟩; refine Hid.out ?_)
  refine Nu.hid ?_
  try dsimp only
  have A13 := Nu.hid ho13
  have H13 := Nu.hid (H12.out.later hb13)
  have B13 := Nu.hid hb13
  clear x0 x1 hb13 ho13 H12 f0 f1 f2 f3 i1 i2 i3 i4
  obtain ⟨x0, x1⟩ := H13.out.g.cells
  go_wp2_with (go_at_call 14; refine (HDC.out _ _ _ H13.out.g.edges).mono ?_; rintro e w14 ⟨a14, c14, rfl, ho14, hb14⟩; refine Hid.out ?_)
  refine Nu.hid ?_
  try dsimp only
  have A14 := Nu.hid ho14
  have H14 := Nu.hid (H13.out.later hb14)
  have B14 := Nu.hid hb14
  clear x0 x1 hb14 ho14 H13
  obtain ⟨x0, x1⟩ := H14.out.g.cells
  go_wp2_with (go_at_call 18; refine (HDK.out _ _ _ H14.out.g.edges).mono ?_; rintro e w15 ⟨ea15, ec15, a15, c15, rfl, hoe15, ho15, hb15⟩; refine Hid.out ?_)
  refine Nu.hid ?_
  try dsimp only
  have A15 := Nu.hid ho15
  have E15 := Nu.hid hoe15
  have H15 := Nu.hid (H14.out.later hb15)
  have B15 := Nu.hid hb15
  clear x0 x1 hb15 ho15 hoe15 H14
  obtain ⟨w16, hw16⟩ : ∃ W, W = w15.alloc (.cells #[.int .i64 (L4.length : Int), .slice ea15 E.length ec15] 24) := ⟨_, rfl⟩
  have hb16 : Below w15.heap.size w15 w16 := by rw [hw16]; exact (Below.refl _ _).alloc (Nat.le_refl _) _
  have X16 : Hid (w16.heap[w15.heap.size]? = some (.cells #[.int .i64 (L4.length : Int), .slice ea15 E.length ec15] 24 (0, 0))) := by
    show _ = _
    rw [hw16]
    exact heap_alloc_new w15 _
  have H16 := Nu.hid (H15.out.later hb16)
  have W16 := Nu.hid hw16
  -- the worlds' ways to the last of them
  have C15 := Nu.hid hb16
  have C14 := Nu.hid (B15.out.trans (C15.out.mono B15.out.size))
  have C13 := Nu.hid (B14.out.trans (C14.out.mono B14.out.size))
  have C12 := Nu.hid (B13.out.trans (C13.out.mono B13.out.size))
  have C11 := Nu.hid (B12.out.trans (C12.out.mono B12.out.size))
  have C10b := Nu.hid (B11.out.trans (C11.out.mono B11.out.size))
  have C10 := Nu.hid (B10b.out.trans (C10b.out.mono B10b.out.size))
  have C9b := Nu.hid (B10.out.trans (C10.out.mono B10.out.size))
  have C9 := Nu.hid (B9b.out.trans (C9b.out.mono B9b.out.size))
  have C8 := Nu.hid (B9.out.trans (C9.out.mono B9.out.size))
  have C7 := Nu.hid (B8.out.trans (C8.out.mono B8.out.size))
  have C6 := Nu.hid (B7.out.trans (C7.out.mono B7.out.size))
  have C5 := Nu.hid (B6.out.trans (C6.out.mono B6.out.size))
  have sz : w4.heap.size ≤ w5.heap.size ∧ w5.heap.size ≤ w6.heap.size ∧ w6.heap.size ≤ w7.heap.size ∧ w7.heap.size ≤ w8.heap.size ∧ w8.heap.size ≤ w9.heap.size ∧ w9.heap.size < w9b.heap.size ∧ w9b.heap.size ≤ w10.heap.size ∧ w10.heap.size < w10b.heap.size ∧ w10b.heap.size ≤ w11.heap.size ∧ w11.heap.size ≤ w12.heap.size ∧ w12.heap.size ≤ w13.heap.size ∧ w13.heap.size ≤ w14.heap.size ∧ w14.heap.size ≤ w15.heap.size ∧ w15.heap.size < w16.heap.size :=
    ⟨B5.out.size, B6.out.size, B7.out.size, B8.out.size, B9.out.size, lt_of_block X9.out, B10.out.size, lt_of_block X10.out, B11.out.size, B12.out.size, B13.out.size, B14.out.size, B15.out.size, lt_of_block X16.out⟩
  have R5 : Hid (∀ b, (Value.slice a5 L1.length c5).ownBlock = some b → w4.heap.size ≤ b ∧ b < w5.heap.size) := fun b hb => World.ownsRow.lt A5.out b hb
  have R6 : Hid (∀ b, (Value.slice a6 L1.length c6).ownBlock = some b → w5.heap.size ≤ b ∧ b < w6.heap.size) := fun b hb => World.ownsRow.lt A6.out b hb
  have R7 : Hid (∀ b, (Value.slice a7 L2.length c7).ownBlock = some b → w6.heap.size ≤ b ∧ b < w7.heap.size) := fun b hb => World.ownsRow.lt A7.out b hb
  have R8 : Hid (∀ b, (Value.slice a8 L2.length c8).ownBlock = some b → w7.heap.size ≤ b ∧ b < w8.heap.size) := fun b hb => World.ownsRow.lt A8.out b hb
  have R9 : Hid (∀ b, (Value.slice a9 L4.length c9).ownBlock = some b → w8.heap.size ≤ b ∧ b < w9.heap.size) := fun b hb => World.ownsRow.lt A9.out b hb
  have Q9 : Hid (∀ b, (Value.slice ea9 E.length ec9).ownBlock = some b → w8.heap.size ≤ b ∧ b < w9.heap.size) := fun b hb => World.ownsRow.lt E9.out b hb
  have R10 : Hid (∀ b, (Value.slice a10 L4.length c10).ownBlock = some b → w9b.heap.size ≤ b ∧ b < w10.heap.size) := fun b hb => World.ownsRow.lt A10.out b hb
  have Q10 : Hid (∀ b, (Value.slice ea10 E.length ec10).ownBlock = some b → w9b.heap.size ≤ b ∧ b < w10.heap.size) := fun b hb => World.ownsRow.lt E10.out b hb
  have R13 : Hid (∀ b, (Value.slice a13 L1.length c13).ownBlock = some b → w12.heap.size ≤ b ∧ b < w13.heap.size) := fun b hb => World.ownsRow.lt A13.out b hb
  have R14 : Hid (∀ b, (Value.slice a14 L2.length c14).ownBlock = some b → w13.heap.size ≤ b ∧ b < w14.heap.size) := fun b hb => World.ownsRow.lt A14.out b hb
  have R15 : Hid (∀ b, (Value.slice a15 L4.length c15).ownBlock = some b → w14.heap.size ≤ b ∧ b < w15.heap.size) := fun b hb => World.ownsRow.lt A15.out b hb
  have Q15 : Hid (∀ b, (Value.slice ea15 E.length ec15).ownBlock = some b → w14.heap.size ≤ b ∧ b < w15.heap.size) := fun b hb => World.ownsRow.lt E15.out b hb
  have HM1 := Nu.hid (mark9_any _ _ w4.heap.size w16 (A5.out.later C5.out) (by omega) (by omega))
  clear hb16 hw16
  go_wp2_with (go_at_call 24; rw [← W16.out]; refine HM1.out.mono ?_; rintro e w17 ⟨rfl, hw17⟩; refine Hid.out ?_)
  refine Nu.hid ?_
  have K17 := Nu.hid hw17
  have s17 := hw17.size
  have HM2 := Nu.hid (mark9_any _ _ w6.heap.size w17 (ownZ_keep9 (A7.out.later C7.out) hw17 fun b hb e => by have := R7.out b hb; have := R5.out b e; omega) (by omega) (by omega))
  clear hw17 HM1
  go_wp2_with (go_at_call 24; refine HM2.out.mono ?_; rintro e w18 ⟨rfl, hw18⟩; refine Hid.out ?_)
  refine Nu.hid ?_
  have K18 : Hid (Wrote (fun b => (Value.slice a5 L1.length c5).ownBlock = some b ∨ (Value.slice a7 L2.length c7).ownBlock = some b) w16 w18) := (K17.out.mono fun b _ h => .inl h).next hw18 fun b _ h => .inr h
  have s18 := hw18.size
  have HM3 := Nu.hid (mark9_any _ _ w8.heap.size w18 (ownZ_keep9 (A9.out.later C9.out) K18.out fun b hb e => by
    have := R9.out b hb
    rcases e with e | e
    · have := R5.out b e
      omega
    · have := R7.out b e
      omega) (by omega) (by omega))
  clear hw18 HM2 K17
  go_wp2_with (go_at_call 24; refine HM3.out.mono ?_; rintro e w19 ⟨rfl, hw19⟩; refine Hid.out ?_)
  refine Nu.hid ?_
  obtain ⟨S, hS⟩ : ∃ S : Nat → Prop, S = fun b => (Value.slice a5 L1.length c5).ownBlock = some b ∨ (Value.slice a7 L2.length c7).ownBlock = some b ∨ (Value.slice a9 L4.length c9).ownBlock = some b ∨ (Value.slice ea9 E.length ec9).ownBlock = some b ∨ b = gf := ⟨_, rfl⟩
  have HS : Hid (∀ b, S b → (Value.slice a5 L1.length c5).ownBlock = some b ∨ (Value.slice a7 L2.length c7).ownBlock = some b ∨ (Value.slice a9 L4.length c9).ownBlock = some b ∨ (Value.slice ea9 E.length ec9).ownBlock = some b ∨ b = gf) := fun b h => by rw [hS] at h; exact h
  have HSX : Hid (∀ b, (Value.slice ea9 E.length ec9).ownBlock = some b → S b) := fun b h => by rw [hS]; exact .inr (.inr (.inr (.inl h)))
  have HSG : Hid (S gf) := by rw [hS]; exact .inr (.inr (.inr (.inr rfl)))
  have K19 : Hid (Wrote S w16 w19) := by
    rw [hS]
    exact (K18.out.mono fun b _ h => h.elim .inl fun h => .inr (.inl h)).next hw19 fun b _ h => .inr (.inr (.inl h))
  have KX19 : Hid (Wrote (fun b => (Value.slice a5 L1.length c5).ownBlock = some b ∨ (Value.slice a7 L2.length c7).ownBlock = some b ∨ (Value.slice a9 L4.length c9).ownBlock = some b) w16 w19) := (K18.out.mono fun b _ h => h.elim .inl fun h => .inr (.inl h)).next hw19 fun b _ h => .inr (.inr h)
  have E19 : Hid (OwnE w19 w8.heap.size (.slice ea9 E.length ec9) E) := ownE_keep9 (E9.out.below (C9.out) (Nat.le_refl _)) KX19.out fun b hb e => by
    have := Q9.out b hb
    rcases e with e | e | e
    · have := R5.out b e
      omega
    · have := R7.out b e
      omega
    · exact N9.out b e hb
  have F19 : Hid (OwnE w19 w1.heap.size (.slice (some ⟨gf, 0, none⟩) (es.length + 2) cf) (es ++ [(-1, -2), (-3, -4)])) := ownE_keep9 H16.out.fu KX19.out fun b hb e => by
    have hgb : gf = b := by simpa [Value.ownBlock] using hb
    rcases e with e | e | e
    · have := R5.out b e
      omega
    · have := R7.out b e
      omega
    · have := R9.out b e
      omega
  -- a block that is written nowhere
  have HK : Hid (∀ V b, Wrote S w16 V → b < w16.heap.size → (w5.heap.size ≤ b ∧ b < w6.heap.size ∨ w7.heap.size ≤ b ∧ b < w8.heap.size ∨ w9.heap.size ≤ b ∨ b < gf ∨ gf < b ∧ b < w4.heap.size) → V.heap[b]? = w16.heap[b]?) := fun V b hV hb hr => hV.block b hb fun h => by
    rcases HS.out b h with e | e | e | e | e
    · have := R5.out b e
      omega
    · have := R7.out b e
      omega
    · have := R9.out b e
      omega
    · have := Q9.out b e
      omega
    · omega
  have HXB : Hid (∀ V, Wrote S w16 V → V.cell? ⟨w9.heap.size, 1, none⟩ = some (.slice ea9 E.length ec9)) := fun V hV => by
    have h1 := (C9b.out.block _ (lt_of_block X9.out)).trans X9.out
    have h2 := (HK.out V w9.heap.size hV (by omega) (by omega)).trans h1
    exact (pair_cells h2).2.1
  clear hS hw19 HM3 K18 KX19
  have y1 := HXB.out _ K19.out
  go_wp2
  clear y1
  go_loopw [138] (fun cv wr => ∃ (i : Nat) (q : List (Int × Int)), i ≤ E.length ∧ cv = .int .i64 (i : Int) ∧ q.length = E.length ∧ OwnE wr w8.heap.size (.slice ea9 E.length ec9) q ∧ OwnE wr w1.heap.size (.slice (some ⟨gf, 0, none⟩) (es.length + 2) cf) (es ++ [(-1, -2), (-3, -4)]) ∧ Wrote S w16 wr) (fun cv _ => E.length - (intOf cv).toNat)
  case atStart => exact ⟨0, E, Nat.zero_le _, rfl, rfl, E19.out, F19.out, K19.out⟩
  case round =>
    clear E19 F19 K19
    obtain ⟨i, q, hil, rfl, hql, hOE, hFU, hK⟩ := hrel
    have y1 := HXB.out _ hK
    by_cases hlt : i < E.length
    · have i1 : (i : Int) < (E.length : Int) := by omega
      have i0' : (0 : Int) ≤ (i : Int) := by omega
      obtain ⟨gx, hgx⟩ : ∃ gx, ea9 = some ⟨gx, 0, none⟩ := by
        rcases hOE.2 with ⟨h', h0⟩ | ⟨g', c', cur, e', _⟩
        · omega
        · injection e' with e1
          exact ⟨g', e1⟩
      subst hgx
      obtain ⟨p1, ⟨u, v, z0, z1⟩, f0, f1⟩ := ownE_put9 hOE (i := i) (by omega) 9 8
      have hgr := Q9.out gx rfl
      have HEND : Hid (OwnE ((wr.setCell ⟨gx, i * 2, none⟩ (.int .i64 9)).setCell ⟨gx, i * 2 + 1, none⟩ (.int .i64 8)) w8.heap.size (.slice (some ⟨gx, 0, none⟩) E.length ec9) (q.set i (9, 8)) ∧ OwnE ((wr.setCell ⟨gx, i * 2, none⟩ (.int .i64 9)).setCell ⟨gx, i * 2 + 1, none⟩ (.int .i64 8)) w1.heap.size (.slice (some ⟨gf, 0, none⟩) (es.length + 2) cf) (es ++ [(-1, -2), (-3, -4)]) ∧ Wrote S w16 ((wr.setCell ⟨gx, i * 2, none⟩ (.int .i64 9)).setCell ⟨gx, i * 2 + 1, none⟩ (.int .i64 8))) := by
        refine ⟨p1, ?_, (hK.setCell (HSX.out gx rfl) _).setCell (HSX.out gx rfl) _⟩
        refine ownE_keep9 (S := fun b => b = gx) hFU (((Wrote.refl (fun b => b = gx) wr).setCell (S := fun b => b = gx) rfl _).setCell (S := fun b => b = gx) rfl _) fun b hb e => ?_
        have hgb : gf = b := by simpa [Value.ownBlock] using hb
        omega
      clear hOE hFU hK p1
      go_wp2
      go_roundw
      case rel => exact ⟨i + 1, _, by omega, by go_num, by rw [List.length_set]; exact hql, HEND.out.1, HEND.out.2.1, HEND.out.2.2⟩
      case measure => simp [intOf]; omega
    · have i1 : ¬ (i : Int) < (E.length : Int) := by omega
      have FU := Nu.hid hFU
      have KK := Nu.hid hK
      clear hOE hFU hK y1 hql
      go_wp2
      go_loopw [149] (fun cv wr => ∃ (i : Nat) (q : List (Int × Int)), i ≤ es.length + 2 ∧ cv = .int .i64 (i : Int) ∧ q.length = es.length + 2 ∧ OwnE wr w1.heap.size (.slice (some ⟨gf, 0, none⟩) (es.length + 2) cf) q ∧ Wrote S w16 wr) (fun cv _ => es.length + 2 - (intOf cv).toNat)
      case atStart => exact ⟨0, _, Nat.zero_le _, rfl, by simp, FU.out, KK.out⟩
      case round =>
        clear FU KK
        obtain ⟨i, q, hil, rfl, hql, hOE, hK⟩ := hrel
        by_cases hlt : i < es.length + 2
        · have i1 : (i : Int) < (es.length : Int) + 2 := by omega
          have i0' : (0 : Int) ≤ (i : Int) := by omega
          obtain ⟨p1, ⟨u, v, z0, z1⟩, f0, f1⟩ := ownE_put9 hOE (i := i) (by omega) 7 7
          have HEND := Nu.hid (And.intro p1 ((hK.setCell HSG.out (.int .i64 7) (i := i * 2)).setCell HSG.out (.int .i64 7) (i := i * 2 + 1)))
          clear hOE hK p1
          go_wp2
          go_roundw
          case rel => exact ⟨i + 1, _, by omega, by go_num, by rw [List.length_set]; exact hql, HEND.out.1, HEND.out.2⟩
          case measure => simp [intOf]; omega
        · have i1 : ¬ (i : Int) < (es.length : Int) + 2 := by omega
          have T6 := Nu.hid (((A6.out.later C6.out).same fun b hb hl => HK.out wr b hK hl (by have := R6.out b hb; omega)).at)
          have T8 := Nu.hid (((A8.out.later C8.out).same fun b hb hl => HK.out wr b hK hl (by have := R8.out b hb; omega)).at)
          have T10 := Nu.hid (((A10.out.later C10.out).same fun b hb hl => HK.out wr b hK hl (by have := R10.out b hb; omega)).at)
          have T13 := Nu.hid (((A13.out.later C13.out).same fun b hb hl => HK.out wr b hK hl (by have := R13.out b hb; omega)).at)
          have T14 := Nu.hid (((A14.out.later C14.out).same fun b hb hl => HK.out wr b hK hl (by have := R14.out b hb; omega)).at)
          have T15 := Nu.hid (((A15.out.later C15.out).same fun b hb hl => HK.out wr b hK hl (by have := R15.out b hb; omega)).at)
          have U10 : Hid (EdgesAt wr ea10 E) := by
            have h1 : OwnE w16 w9b.heap.size (.slice ea10 E.length ec10) E := E10.out.below C10.out (Nat.le_refl _)
            have h2 : OwnE wr w9b.heap.size (.slice ea10 E.length ec10) E := ownE_keep9 h1 hK fun b hb h => by
              have := Q10.out b hb
              rcases HS.out b h with e | e | e | e | e
              · have := R5.out b e
                omega
              · have := R7.out b e
                omega
              · have := R9.out b e
                omega
              · have := Q9.out b e
                omega
              · omega
            obtain ⟨a, c, e1, _, _, h3, _⟩ := h2.form
            cases e1
            exact h3
          have U15 : Hid (EdgesAt wr ea15 E) := by
            have h1 : OwnE w16 w14.heap.size (.slice ea15 E.length ec15) E := E15.out.below C15.out (Nat.le_refl _)
            have h2 : OwnE wr w14.heap.size (.slice ea15 E.length ec15) E := ownE_keep9 h1 hK fun b hb h => by
              have := Q15.out b hb
              rcases HS.out b h with e | e | e | e | e
              · have := R5.out b e
                omega
              · have := R7.out b e
                omega
              · have := R9.out b e
                omega
              · have := Q9.out b e
                omega
              · omega
            obtain ⟨a, c, e1, _, _, h3, _⟩ := h2.form
            cases e1
            exact h3
          have YB : Hid (wr.heap[w10.heap.size]? = some (.cells #[.int .i64 (L4.length : Int), .slice ea10 E.length ec10] 24 (0, 0))) := (HK.out wr w10.heap.size hK (by omega) (by omega)).trans ((C10b.out.block _ (lt_of_block X10.out)).trans X10.out)
          have ZB : Hid (wr.heap[w15.heap.size]? = some (.cells #[.int .i64 (L4.length : Int), .slice ea15 E.length ec15] 24 (0, 0))) := (HK.out wr w15.heap.size hK (by omega) (by omega)).trans X16.out
          have BW : Hid (Below w.heap.size w wr) := H16.out.g.low.trans (hK.below H16.out.g.low.size (fun b hb => by
            rcases HS.out b hb with e | e | e | e | e
            · have := R5.out b e
              omega
            · have := R7.out b e
              omega
            · have := R9.out b e
              omega
            · have := Q9.out b e
              omega
            · omega))
          have HS1 := Nu.hid (same_two (ca := c6) (cb := c13) rfl T6.out T13.out (by omega))
          clear hOE hK
          go_wp2_with (go_at_call 12; refine HS1.out.mono ?_; rintro e w21 ⟨rfl, hb21⟩; refine Hid.out ?_)
          refine Nu.hid ?_
          have HS2 := Nu.hid (same_two (ca := c8) (cb := c14) rfl (T8.out.later hb21) (T14.out.later hb21) (by omega))
          go_wp2_with (go_at_call 12; refine HS2.out.mono ?_; rintro e w22 ⟨rfl, hb22⟩; refine Hid.out ?_)
          refine Nu.hid ?_
          have hb22' := hb21.trans (hb22.mono hb21.size)
          have HS3 := Nu.hid (same_two (ca := c10) (cb := c15) rfl (T10.out.later hb22') (T15.out.later hb22') (by omega))
          go_wp2_with (go_at_call 12; refine HS3.out.mono ?_; rintro e w23 ⟨rfl, hb23⟩; refine Hid.out ?_)
          refine Nu.hid ?_
          have hb23' := hb22'.trans (hb23.mono hb22'.size)
          have HS4 := Nu.hid (equal_two (n := (L4.length : Int)) (ca := ec10) (cb := ec15) (U10.out.later hb23') (U15.out.later hb23') (by omega))
          obtain ⟨v0, v1, -⟩ := pair_cells ((hb23'.block _ (lt_of_block YB.out)).trans YB.out)
          obtain ⟨u0, u1, -⟩ := pair_cells ((hb23'.block _ (lt_of_block ZB.out)).trans ZB.out)
          have BW23 := Nu.hid (BW.out.trans (hb23'.mono BW.out.size))
          clear hb21 hb22 hb22' hb23 hb23'
          go_wp2_with (go_at_call 19; refine HS4.out.mono ?_; rintro e w24 ⟨rfl, hb24⟩; have BW24 := Nu.hid (BW23.out.trans (hb24.mono BW23.out.size)); clear hb24)
          go_ret
          exact ⟨rfl, BW24.out⟩
set_option maxRecDepth 100000 in
/-- What the walk gives, for every argument and every world. -/
theorem contract (H : Type) (enc : TypeId × Value → H) (W : World) (base : Nat) (args : Array Value) (ds gs : List (DataW H)) (before : List MemPlace)
    (hval : ∀ (j : Nat) t v, Try.f7.params[j]? = some t → args[j]? = some v → Value.okWide Try.prog W .any base t v)
    (hW : DataW.Whole enc Try.prog Try.f7.params.toList Rows.blocksOwnSpec.vars false W args.toList ds gs before)
    (hsz : (DataW.weightsEach Try.prog (Try.f7.params.toList ++ (OpenSpec.ofChange Rows.blocksOwnSpec).bare.plain.varTypes Try.prog) (ds ++ gs)).all (· ≤ reachBytes) = true)
    :
    Calls Try.prog 7 args W fun e W' => ∃ v, e = .returned v ∧ Rows.blocksOwnSpec.post enc Try.prog Try.f7 false true false false W args v W' := by
  have hW' := hW
  obtain ⟨p, q, hA0, hV, rfl, hfz, hnd⟩ := hW
  have hA : DataW.TrodAll enc Try.prog W 0 (fun _ => true) true Try.f7.params.toList args.toList ds p := hA0
  rw [Try.params7] at hA hval hsz
  obtain ⟨v0, vs0, d0, ds0, p0, q0, hargs, rfl, rfl, h0, r0⟩ := trodAll_cons hA
  obtain ⟨v1, vs1, d1, ds1, p1, q1, rfl, rfl, rfl, h1, r1⟩ := trodAll_cons r0
  obtain ⟨rfl, rfl, rfl⟩ := trodAll_nil r1
  obtain rfl : args = #[v0, v1] := by cases args; simp_all
  obtain ⟨rfl, rfl⟩ := trodVars_none hV
  have k0 := h0
  have lt0 : ∀ x ∈ p0, x.block < W.heap.size := by obtain ⟨m, hm⟩ := k0; exact DataW.trod_lt m _ _ _ hm
  obtain ⟨n0, a0, cap0, q0, rfl, x0, w0, u0⟩ := graph_of_trod (j := 0) (hval 0 24 v0 rfl rfl) h0 hsz rfl rfl
  obtain ⟨a1, rfl, rfl, rfl, w1⟩ := open_int Try.underlying3 (hval 1 3 v1 rfl rfl) h1
  clear hA0
  refine (walk n0 a0 cap0 q0 a1 W x0 w0 u0 w1).mono fun e W' ⟨he, bel⟩ => ?_
  subst he
  exact ⟨_, rfl, _, _, _, [], _, [], hW', trodAll_mk1 (shut_bool Try.underlying4 _), (trodAll_cons_mk (Below.trod laidOut (by kernel_rfl) (of_decide_eq_true (by kernel_rfl)) k0 bel lt0) (trodAll_cons_mk (shut_int Try.underlying3 w1) trodAll_mk0)), rfl, bel.frame _, fun h => by cases h⟩

theorem laid_met (os : Os) : laidMet Try.prog Rows.blocksOwnRow.laid ((settled os).forCall (fun _ _ => 0) ⟨#[], #[.agg #[.int .i64 0, .slice none 0 0], .int .i64 0], []⟩).memory :=
  laidMet_of_run' 100 (by kernel_rfl) (by kernel_rfl)
theorem reads (os : Os) {H : Type} (enc : TypeId × Value → H) : ∃ places, DataW.whole enc Try.prog ((settled os).forCall (fun _ _ => 0) ⟨#[], #[.agg #[.int .i64 0, .slice none 0 0], .int .i64 0], []⟩).memory Try.f7.params.toList Rows.blocksOwnSpec.vars false (#[.agg #[.int .i64 0, .slice none 0 0], .int .i64 0] : Array Value).toList 8 = some ([.agg [.lit (.int .i64 0), .nil], .lit (.int .i64 0)], [], places) :=
  ⟨[], by kernel_rfl⟩

set_option maxRecDepth 100000 in
theorem lifted (os : Os) (started : os.Started) (H : Type) (enc : TypeId × Value → H) (F : Stop.Interp) :
    ReturnsInHanded {} Try.checked os 7 .any ((OpenSpec.ofChange Rows.blocksOwnSpec).preRow enc Try.prog Try.f7 Rows.blocksOwnRow.domain false Rows.blocksOwnRow.laid) (((OpenSpec.ofChange Rows.blocksOwnSpec).at F).post enc Try.prog Try.f7 false true false false) := by
  obtain ⟨places, hx⟩ := reads os enc
  refine returnsInHanded_of_row (C := Try.checked) (s := (OpenSpec.ofChange Rows.blocksOwnSpec)) own started (by kernel_rfl) Try.func7
    (witness_row_at (enc := enc) (C := Try.checked) false (settled os) #[.agg #[.int .i64 0, .slice none 0 0], .int .i64 0] rfl (by kernel_rfl) (by kernel_rfl) (by kernel_rfl)
      (OpenSpec.preRow_of_cond 8 hx (by kernel_rfl) (fun k hk => by cases hk) (by kernel_rfl) (laid_met os))) ?_
  intro W base args ds gs before hval hW _ _ hsz _ _ _
  exact contract H enc W base args ds gs before hval hW hsz 

theorem said : Rows.BlocksOwnSaid :=
  OpenClaim.holds_of_cond 7 Try.f7 rfl rfl rfl rfl rfl rfl rfl ⟨rfl, rfl, rfl, rfl, rfl⟩ rfl rfl rfl rfl rfl (by kernel_rfl) Try.func7 (by kernel_rfl)
    (of_decide_eq_true (by kernel_rfl)) (by unfold Func.isWrapper; first | (rw [if_pos (by decide +kernel)]; kernel_rfl) | (rw [if_neg (by decide +kernel)]; exact ⟨rfl, rfl⟩))
    (fun os started H enc _ F => by rw [OpenClaim.pre_eq_preRow]; exact lifted os started H enc F)

end lawOwn

theorem blocksOwn_holds : Rows.BlocksOwnSaid := lawOwn.said

#print axioms blocksOwn_holds
end Go.Proofs.Ytalfpbalekbinaa
