/-
  The fixed fact of layer 14.
-/
import Derived.Test.YtdkckdbpbdhoaaaEdW3
import Derived.Test.YtdkckdbpbdhoaaaEdW9
import Derived.Test.YtdkckdbpbdhoaaaRoAl
import Derived.Test.YtdkckdbpbdhoaaaSiEq
namespace Go.Proofs.Ytdkckdbpbdhoaaa
open Go.RowKit Go.Sort

def Ed.ex : List (Int × Int) := [(0, 1), (0, 2), (1, 2)]
theorem Ed.ex_val : Si.Val 4 Ed.ex := Ed.val_of (by decide) (by decide) (by simp [Ed.ex]) (fun p hp => by simp [Ed.ex] at hp; rcases hp with rfl | rfl | rfl <;> simp [Si.ok]) (by simp [Ed.ex, Si.lt])
theorem Ed.ex_ok : Si.valid 4 Ed.ex = true := Si.valid_iff.2 Ed.ex_val
theorem Ed.ex_without : Ed.without 4 Ed.ex 1 = (4, [(0, 1), (1, 2)], 0) := by
  unfold Ed.without
  rw [if_neg (by rw [Ed.ex_ok]; simp), if_neg (by simp [Ed.ex])]
  rfl
theorem Ed.ex_divide : Ed.divide 4 Ed.ex 0 = (5, [(0, 2), (0, 4), (1, 2), (1, 4)], 0) := by
  unfold Ed.divide
  rw [if_neg (by rw [Ed.ex_ok]; simp), if_neg (by simp [Ed.ex]), if_neg (by simp [Ed.ex])]
  rfl
theorem Ed.ex_bl : Ed.bl Ed.ex 4 = [0, 1, 2] := by decide
theorem Ed.ex_bare : Ed.bare 4 Ed.ex = (3, [(0, 1), (0, 2), (1, 2)], 0) := by
  unfold Ed.bare
  rw [if_neg (by rw [Ed.ex_ok]; simp)]
  show (((Ed.bl Ed.ex 4).length : Int), Ed.named (Ed.pl 4 (Ed.bl Ed.ex 4)) Ed.ex, 0) = _
  rw [Ed.ex_bl]
  decide
theorem Ed.ex_bareL : Ed.bareL 4 Ed.ex = [0, 1, 2] := by
  unfold Ed.bareL
  rw [if_neg (by rw [Ed.ex_ok]; simp)]
  exact Ed.ex_bl

theorem six_cells {w : World} {b : Nat} {t : TypeId} {x0 x1 x2 x3 x4 x5 : Value} (h : w.heap[b]? = some (.cells #[x0, x1, x2, x3, x4, x5] t (0, 0))) : w.cell? ⟨b, 0, none⟩ = some x0 ∧ w.cell? ⟨b, 1, none⟩ = some x1 ∧ w.cell? ⟨b, 2, none⟩ = some x2 ∧ w.cell? ⟨b, 3, none⟩ = some x3 ∧ w.cell? ⟨b, 4, none⟩ = some x4 ∧ w.cell? ⟨b, 5, none⟩ = some x5 := by
  simp [World.cell?, h]

theorem ex_edges {w : World} {b : Nat} (h : w.heap[b]? = some (.cells #[.int .i64 0, .int .i64 1, .int .i64 0, .int .i64 2, .int .i64 1, .int .i64 2] 26 (0, 0))) : EdgesAt w (some ⟨b, 0, none⟩) Ed.ex := by
  obtain ⟨c0, c1, c2, c3, c4, c5⟩ := six_cells h
  intro j p hj
  match j with
  | 0 => simp [Ed.ex] at hj; subst hj; exact ⟨b, 0, rfl, c0, c1⟩
  | 1 => simp [Ed.ex] at hj; subst hj; exact ⟨b, 0, rfl, c2, c3⟩
  | 2 => simp [Ed.ex] at hj; subst hj; exact ⟨b, 0, rfl, c4, c5⟩
  | j + 3 => simp [Ed.ex] at hj

/-- Block b holds these two. -/
theorem blk_later {w w' : World} {b : Nat} {o : Obj} (h : w.heap[b]? = some o) (hb : Below w.heap.size w w') : w'.heap[b]? = some o := (hb.block b (Array.getElem?_eq_some_iff.1 h).1).trans h
theorem blk_alloc {w : World} {b : Nat} {o : Obj} (h : w.heap[b]? = some o) (o' : Obj) : (w.alloc o').heap[b]? = some o := (Below.heap_alloc w o' b (Array.getElem?_eq_some_iff.1 h).1).trans h

theorem three_ints (W : World) : IntsAt (W.alloc (.cells #[.int .i64 0, .int .i64 1, .int .i64 2] 3)) (some ⟨W.heap.size, 0, none⟩) [0, 1, 2] := by
  have h := heap_alloc_new W (.cells #[.int .i64 0, .int .i64 1, .int .i64 2] 3)
  generalize W.alloc (.cells #[.int .i64 0, .int .i64 1, .int .i64 2] 3) = V at h
  generalize W.heap.size = g at h
  intro j x hj
  refine ⟨g, 0, rfl, ?_⟩
  match j with
  | 0 => simp at hj; subst hj; simp [World.cell?, h]
  | 1 => simp at hj; subst hj; simp [World.cell?, h]
  | 2 => simp at hj; subst hj; simp [World.cell?, h]
  | j + 3 => simp at hj

set_option maxRecDepth 100000 in
set_option maxHeartbeats 8000000 in
theorem fixed14_any (w : World) : Calls Try.prog 9 #[] w fun e w' => e = .returned (.bool true) ∧ Below w.heap.size w w' := by
  have HW : Hid (∀ (b : Nat) W, EdgesAt W (some ⟨b, 0, none⟩) Ed.ex → Calls Try.prog 10 #[.agg #[.int .i64 4, .slice (some ⟨b, 0, none⟩) 3 3], .int .i64 1] W (AnsP (4, [(0, 1), (1, 2)], 0) W)) := fun b W h => by
    have := ewithout_any 4 1 (some ⟨b, 0, none⟩) 3 Ed.ex W h (by simp [Ed.ex])
    rw [Ed.ex_without] at this
    exact this
  have HD : Hid (∀ (b : Nat) W, EdgesAt W (some ⟨b, 0, none⟩) Ed.ex → Calls Try.prog 15 #[.agg #[.int .i64 4, .slice (some ⟨b, 0, none⟩) 3 3], .int .i64 0] W (AnsP (5, [(0, 2), (0, 4), (1, 2), (1, 4)], 0) W)) := fun b W h => by
    have := edivide_any 4 0 (some ⟨b, 0, none⟩) 3 Ed.ex W h (by simp [Ed.ex])
    rw [Ed.ex_divide] at this
    exact this
  have HR : Hid (∀ (b : Nat) W, EdgesAt W (some ⟨b, 0, none⟩) Ed.ex → Calls Try.prog 26 #[.agg #[.int .i64 4, .slice (some ⟨b, 0, none⟩) 3 3]] W (BareP (3, [(0, 1), (0, 2), (1, 2)], 0) [0, 1, 2] W)) := fun b W h => by
    have := ebare_any 4 (some ⟨b, 0, none⟩) 3 Ed.ex W h (by simp [Ed.ex])
    rw [Ed.ex_bare, Ed.ex_bareL] at this
    exact this
  have hb0 : Below w.heap.size w ((w.alloc (.cells #[.int .i64 0, .int .i64 1, .int .i64 0, .int .i64 2, .int .i64 1, .int .i64 2] 26)).alloc (.cells #[.int .i64 4, .slice (some ⟨w.heap.size, 0, none⟩) 3 3] 24)) := ((Below.refl _ _).alloc (Nat.le_refl _) _).alloc (by simp) _
  have h1 : ((w.alloc (.cells #[.int .i64 0, .int .i64 1, .int .i64 0, .int .i64 2, .int .i64 1, .int .i64 2] 26)).alloc (.cells #[.int .i64 4, .slice (some ⟨w.heap.size, 0, none⟩) 3 3] 24)).heap[w.heap.size]? = some (.cells #[.int .i64 0, .int .i64 1, .int .i64 0, .int .i64 2, .int .i64 1, .int .i64 2] 26 (0, 0)) := blk_alloc (heap_alloc_new w _) _
  have h2 : ((w.alloc (.cells #[.int .i64 0, .int .i64 1, .int .i64 0, .int .i64 2, .int .i64 1, .int .i64 2] 26)).alloc (.cells #[.int .i64 4, .slice (some ⟨w.heap.size, 0, none⟩) 3 3] 24)).heap[w.heap.size + 1]? = some (.cells #[.int .i64 4, .slice (some ⟨w.heap.size, 0, none⟩) 3 3] 24 (0, 0)) := heap_new1 w _ _
  have HB0 := Nu.hid hb0
  have H1 := Nu.hid h1
  have H2 := Nu.hid h2
  clear hb0 h1 h2
  go_enter Try.func9, Try.ntmps9
  go_wp2_with (go_at_call 10; refine (HW.out _ _ (ex_edges H1.out)).mono ?_; rintro e w2 ⟨v, rfl, ho, hb⟩; refine Hid.out ?_)
  refine Nu.hid ?_
  have HB2 := Nu.hid (HB0.out.trans (hb.mono HB0.out.size))
  have H12 := Nu.hid (blk_later H1.out hb)
  have H22 := Nu.hid (blk_later H2.out hb)
  obtain ⟨xa, xc, rfl, -, -, hxe, hxb⟩ := ho.form
  simp only [List.length_cons, List.length_nil, Nat.zero_add, Nat.reduceAdd]
  have HX := Nu.hid hxe
  have hsa := lt_of_block H22.out
  obtain ⟨g0, g1, -⟩ := pair_cells H22.out
  clear hb ho hxe hxb
  have HBA : Hid ((w2.alloc (.cells #[.int .i64 4, .slice xa 2 xc] 24)).heap[w2.heap.size]? = some (.cells #[.int .i64 4, .slice xa 2 xc] 24 (0, 0))) := heap_alloc_new w2 _
  go_wp2_with (go_at_call 15; refine (HD.out _ _ (ex_edges (blk_alloc H12.out _))).mono ?_; rintro e w3 ⟨v, rfl, ho, hb⟩; refine Hid.out ?_)
  refine Nu.hid ?_
  have HB3 : Hid (Below w.heap.size w w3) := (HB2.out.alloc HB2.out.size _).trans (hb.mono (by have := HB2.out.size; simp; omega))
  have H13 := Nu.hid (blk_later (blk_alloc H12.out _) hb)
  have H23 := Nu.hid (blk_later (blk_alloc H22.out _) hb)
  have HA3 := Nu.hid (blk_later HBA.out hb)
  have HX3 := Nu.hid (HX.out.later (((Below.refl w2.heap.size w2).alloc (Nat.le_refl _) _).trans (hb.mono (by simp))))
  obtain ⟨ya, yc, rfl, -, -, hye, hyb⟩ := ho.form
  simp only [List.length_cons, List.length_nil, Nat.zero_add, Nat.reduceAdd]
  have HY := Nu.hid hye
  clear hb ho hye hyb g0 g1
  obtain ⟨g0, g1, -⟩ := pair_cells H23.out
  have hsb := lt_of_block H23.out
  have hsa3 := lt_of_block HA3.out
  have HBB : Hid ((w3.alloc (.cells #[.int .i64 5, .slice ya 4 yc] 24)).heap[w3.heap.size]? = some (.cells #[.int .i64 5, .slice ya 4 yc] 24 (0, 0))) := heap_alloc_new w3 _
  go_wp2_with (go_at_call 26; refine (HR.out _ _ (ex_edges (blk_alloc H13.out _))).mono ?_; rintro e w4 ⟨v, u, rfl, ho, hz, -, hb⟩; refine Hid.out ?_)
  refine Nu.hid ?_
  have HB4 : Hid (Below w.heap.size w w4) := (HB3.out.alloc HB3.out.size _).trans (hb.mono (by have := HB3.out.size; simp; omega))
  have hb34 : Below w3.heap.size w3 w4 := ((Below.refl w3.heap.size w3).alloc (Nat.le_refl _) _).trans (hb.mono (by simp))
  have HA4 := Nu.hid (blk_later HA3.out hb34)
  have HB4B := Nu.hid (blk_later HBB.out hb)
  have HX4 := Nu.hid (HX3.out.later hb34)
  have HY4 := Nu.hid (HY.out.later hb34)
  obtain ⟨va, vc, rfl, -, -, -, -⟩ := ho.form
  obtain ⟨za, zc, rfl, hzi, -⟩ := hz.form
  simp only [List.length_cons, List.length_nil, Nat.zero_add, Nat.reduceAdd]
  have HZ := Nu.hid hzi
  clear hb ho hz hzi g0 g1 hb34
  obtain ⟨a0, a1, -⟩ := pair_cells HA4.out
  obtain ⟨b0, b1, -⟩ := pair_cells HB4B.out
  have hsa4 := lt_of_block HA4.out
  have hsb4 := lt_of_block HB4B.out
  obtain ⟨xb, xo, rfl, x0, x1⟩ := HX4.out 1 (1, 2) rfl
  obtain ⟨yb, yo, rfl, y0, y1⟩ := HY4.out 3 (1, 4) rfl
  have hxl : xb < w4.heap.size := block_lt_of_cell x0
  have hyl : yb < w4.heap.size := block_lt_of_cell y0
  simp only [Nat.one_mul, Nat.reduceMul] at x0 x1 y0 y1
  have eqP := eqEdge
  have HAL : Hid (Calls Try.prog 28 #[.slice za 3 zc, .slice (some ⟨w4.heap.size + 1, 0, none⟩) 3 3] ((w4.alloc (.cells #[.int .i64 3, .slice va 3 vc] 24)).alloc (.cells #[.int .i64 0, .int .i64 1, .int .i64 2] 3)) fun e w' => e = .returned (.bool true) ∧ Below ((w4.alloc (.cells #[.int .i64 3, .slice va 3 vc] 24)).alloc (.cells #[.int .i64 0, .int .i64 1, .int .i64 2] 3)).heap.size ((w4.alloc (.cells #[.int .i64 3, .slice va 3 vc] 24)).alloc (.cells #[.int .i64 0, .int .i64 1, .int .i64 2] 3)) w') := by
    have h3 := three_ints (w4.alloc (.cells #[.int .i64 3, .slice va 3 vc] 24))
    rw [show (w4.alloc (.cells #[.int .i64 3, .slice va 3 vc] 24)).heap.size = w4.heap.size + 1 by simp] at h3
    exact (alike_any za (some ⟨w4.heap.size + 1, 0, none⟩) zc 3 3 3 [0, 1, 2] [0, 1, 2] _ rfl rfl (HZ.out.later (((Below.refl w4.heap.size w4).alloc (Nat.le_refl _) _).alloc (by simp) _)) h3 (by omega)).mono (by
      rintro e w' ⟨h1, h2⟩
      exact ⟨by rw [h1]; rfl, h2⟩)
  go_wp2_with (go_at_call 28; refine HAL.out.mono ?_; rintro e w5 ⟨rfl, hb5⟩)
  go_ret
  exact ⟨rfl, ((HB4.out.alloc HB4.out.size _).alloc (by have := HB4.out.size; simp; omega) _).trans (hb5.mono (by have := HB4.out.size; simp; omega))⟩

end Go.Proofs.Ytdkckdbpbdhoaaa
