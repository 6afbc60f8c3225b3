import Derived.Test.YtmgoahbloppdmaaGreatMg16
import Derived.Test.YtmgoahbloppdmaaGreatMg22
import Derived.Test.YtmgoahbloppdmaaGreatMg24
import Derived.Test.YtmgoahbloppdmaaGreatMg11
import Derived.Test.YtmgoahbloppdmaaGreatMg20
/-
  The program's Of of layer 8.
-/
namespace Go.Proofs.YtmgoahbloppdmaaGreat
open Go.RowKit

theorem setCell_at {w : World} {g i : Nat} {cs : Array Value} {t : TypeId} (h : w.heap[g]? = some (.cells cs t (0, 0))) (v : Value) : (w.setCell ⟨g, i, none⟩ v).heap[g]? = some (.cells (cs.setIfInBounds i v) t (0, 0)) := by
  obtain ⟨hlt, he⟩ := Array.getElem?_eq_some_iff.1 h
  simp [World.setCell, hlt]
  rw [Array.getElem_modify_self, he]

/-- What Of answers: lists of one's own, each in memory of its own. -/
def LowPostN (n : Int) (es : List (Int × Int)) (s : Df.St) (w : World) (r : Ending) (w' : World) : Prop :=
  ∃ v1 v2 v3 vo vs A1 A2 A3 ls z B, r = .returned (.tuple #[.agg #[v1, v2, v3, vo], .int .i64 z]) ∧ LowIs n es s A1 A2 A3 ls z ∧ OwnZ w' w.heap.size v1 A1 ∧ OwnZ w' w.heap.size v2 A2 ∧ OwnZ w' w.heap.size v3 A3 ∧ RowsZ w' B vo vs ls ∧ w.heap.size ≤ B ∧
    (∀ b, v1.ownBlock = some b → b < B ∧ v2.ownBlock ≠ some b ∧ v3.ownBlock ≠ some b) ∧ (∀ b, v2.ownBlock = some b → b < B ∧ v3.ownBlock ≠ some b) ∧ (∀ b, v3.ownBlock = some b → b < B) ∧ Below w.heap.size w w'

theorem LowPostN.low {n : Int} {es : List (Int × Int)} {s : Df.St} {w w' : World} {r : Ending} (h : LowPostN n es s w r w') : LowPost8 n es s w r w' := by
  obtain ⟨v1, v2, v3, vo, vs, A1, A2, A3, ls, z, B, h1, h2, h3, h4, h5, h6, h7, -, -, -, h8⟩ := h
  exact ⟨v1, v2, v3, vo, vs, A1, A2, A3, ls, z, h1, h2, h3, h4, h5, h6.lower h7, h8⟩

set_option maxRecDepth 100000 in
set_option maxHeartbeats 16000000 in
theorem pof_new (n : Int) (ao : Option Addr) (cap : Nat) (es : List (Int × Int)) (f : For) (s : Df.St) (w : World) (he : EdgesAt w ao es) (hl : es.length ≤ 4611686018427387904) (hF : LstF w f s) :
    Calls Tryz.prog 8 #[.agg #[.int .i64 n, .slice ao es.length cap], f.val s] w (LowPostN n es s w) := by
  obtain ⟨W, hW⟩ : ∃ W, W = ((w.alloc (.cells #[.int .i64 n, .slice ao es.length cap] 24)).alloc (.cells #[.slice f.a1 s.par.length f.c1, .slice f.a2 s.hei.length f.c2, .slice f.a3 s.ord.length f.c3, .slice f.a4 s.ori.length f.c4] 27)).alloc (.cells #[.slice none 0 0, .slice none 0 0, .slice none 0 0, .slice none 0 0] 31) := ⟨_, rfl⟩
  have hB0 : Below w.heap.size w W := by rw [hW]; exact (((Below.refl _ _).alloc (Nat.le_refl _) _).alloc (by simp) _).alloc (by simp; omega) _
  have hsz : W.heap.size = w.heap.size + 3 := by rw [hW]; simp
  have g1 : W.heap[w.heap.size]? = some (.cells #[.int .i64 n, .slice ao es.length cap] 24 (0, 0)) := by
    rw [hW, Below.heap_alloc _ _ _ (by simp; omega), Below.heap_alloc _ _ _ (by simp)]
    exact heap_alloc_new w _
  have g2 : W.heap[w.heap.size + 1]? = some (.cells #[.slice f.a1 s.par.length f.c1, .slice f.a2 s.hei.length f.c2, .slice f.a3 s.ord.length f.c3, .slice f.a4 s.ori.length f.c4] 27 (0, 0)) := by
    rw [hW, Below.heap_alloc _ _ _ (by simp)]
    exact alloc_at (by simp)
  have g3 : W.heap[w.heap.size + 2]? = some (.cells #[.slice none 0 0, .slice none 0 0, .slice none 0 0, .slice none 0 0] 31 (0, 0)) := by
    rw [hW]
    exact alloc_at (by simp)
  have HRD : Hid (Calls Tryz.prog 19 #[.agg #[.int .i64 n, .slice ao es.length cap], .agg #[.slice f.a1 s.par.length f.c1, .slice f.a2 s.hei.length f.c2, .slice f.a3 s.ord.length f.c3, .slice f.a4 s.ori.length f.c4]] W fun e w' => ∃ q z, e = .returned (.tuple #[.pointer q, .int .i64 z]) ∧ ((Si.valid n es = false ∧ z = 1) ∨ (Si.valid n es = true ∧ ¬ IsVF n es s ∧ z = 80) ∨ ∃ (p m : Nat) (av : Value), n = (m : Int) ∧ q = some ⟨p, 0, none⟩ ∧ z = 0 ∧ Wd w' p av m es f s) ∧ Below W.heap.size W w') := (read8_any n ao cap es f s W (he.later hB0) hl (hF.later hB0)).mono fun e w' ⟨h, hb⟩ => by
    rcases h with ⟨h1, h2⟩ | ⟨h1, h2, h3⟩ | ⟨p, m, av, h1, h2, h3⟩
    · exact ⟨_, _, h2, .inl ⟨h1, rfl⟩, hb⟩
    · exact ⟨_, _, h3, .inr (.inl ⟨h1, h2, rfl⟩), hb⟩
    · exact ⟨_, _, h2, .inr (.inr ⟨p, m, av, h1, rfl, rfl, h3⟩), hb⟩
  obtain ⟨x0, x1, -⟩ := pair_cells g1
  obtain ⟨k0, k1, k2, k3, -⟩ := four_cells g2
  have HG3 := Nu.hid g3
  have HB0 := Nu.hid hB0
  have HWW := Nu.hid hW
  rw [hW] at x0 x1 k0 k1 k2 k3
  unfold For.val
  clear hB0 g1 g2 g3 he hW hF
  go_enter Tryz.func8, Tryz.ntmps8
  go_wp2_with (go_at_call 19; rw [← HWW.out]; refine HRD.out.mono ?_; rintro e w1 ⟨q, z, rfl, hq, hb1⟩; refine Hid.out ?_)
  refine Nu.hid ?_
  clear x0 x1 k0 k1 k2 k3
  have hB1 : Below w.heap.size w w1 := HB0.out.trans (hb1.mono HB0.out.size)
  have hs1 := hb1.size
  have r1 := (hb1.block _ (lt_of_block HG3.out)).trans HG3.out
  rcases hq with hbad | hbad | ⟨p, m, av, hnm, rfl, rfl, hwd⟩
  · obtain ⟨hno, rfl⟩ := hbad
    obtain ⟨u0, u1, u2, u3, u4⟩ := four_cells r1
    have HB1 := Nu.hid hB1
    have HR1 := Nu.hid r1
    have HNO := Nu.hid hno
    clear hB1 r1 hno
    go_wp2
    obtain ⟨Y, hY⟩ : ∃ Y, Y = put4 w1 (w.heap.size + 1 + 1) (.slice none 0 0) (.slice none 0 0) (.slice none 0 0) (.slice none 0 0) := ⟨_, rfl⟩
    have hYR := put4_heap (B := w.heap.size + 1 + 1) HR1.out (.slice none 0 0) (.slice none 0 0) (.slice none 0 0) (.slice none 0 0)
    rw [← hY] at hYR
    have hYb : Below w.heap.size w Y := by rw [hY]; exact below_put4 HB1.out (by omega) _ _ _ _
    obtain ⟨v0, v1, v2, v3, -⟩ := four_cells hYR
    unfold put4 at hY
    rw [← hY]
    refine bodyPost_ret (v := .tuple #[.agg #[.slice none 0 0, .slice none 0 0, .slice none 0 0, .slice none 0 0], .int .i64 1]) (by simp [results, Tryz.results8, go_sem, v0, v1, v2, v3]) rfl ?_
    exact ⟨_, _, _, _, [], _, _, _, _, _, w.heap.size, rfl, .inl ⟨HNO.out, rfl, rfl, rfl, rfl, rfl⟩, .nil _ _, .nil _ _, .nil _ _, .nil _ _, Nat.le_refl _, (fun b hb => by cases hb), (fun b hb => by cases hb), (fun b hb => by cases hb), hYb⟩
  · obtain ⟨hno1, hno, rfl⟩ := hbad
    obtain ⟨u0, u1, u2, u3, u4⟩ := four_cells r1
    have HB1 := Nu.hid hB1
    have HR1 := Nu.hid r1
    have HNO := Nu.hid hno
    have HNO1 := Nu.hid hno1
    clear hB1 r1 hno hno1
    go_wp2
    obtain ⟨Y, hY⟩ : ∃ Y, Y = put4 w1 (w.heap.size + 1 + 1) (.slice none 0 0) (.slice none 0 0) (.slice none 0 0) (.slice none 0 0) := ⟨_, rfl⟩
    have hYR := put4_heap (B := w.heap.size + 1 + 1) HR1.out (.slice none 0 0) (.slice none 0 0) (.slice none 0 0) (.slice none 0 0)
    rw [← hY] at hYR
    have hYb : Below w.heap.size w Y := by rw [hY]; exact below_put4 HB1.out (by omega) _ _ _ _
    obtain ⟨v0, v1, v2, v3, -⟩ := four_cells hYR
    unfold put4 at hY
    rw [← hY]
    refine bodyPost_ret (v := .tuple #[.agg #[.slice none 0 0, .slice none 0 0, .slice none 0 0, .slice none 0 0], .int .i64 80]) (by simp [results, Tryz.results8, go_sem, v0, v1, v2, v3]) rfl ?_
    exact ⟨_, _, _, _, [], _, _, _, _, _, w.heap.size, rfl, .inr (.inl ⟨HNO1.out, HNO.out, rfl, rfl, rfl, rfl, rfl⟩), .nil _ _, .nil _ _, .nil _ _, .nil _ _, Nat.le_refl _, (fun b hb => by cases hb), (fun b hb => by cases hb), (fun b hb => by cases hb), hYb⟩
  · have HLW := Nu.hid (lows_any w1 hwd)
    have HR1 := Nu.hid r1
    have HWD := Nu.hid hwd
    have HB1 := Nu.hid hB1
    have hfew := hwd.val.few
    have hnn := hwd.val.hi
    subst hnm
    clear hwd hB1 r1 hb1
    go_wp2_with (go_at_call 20; refine HLW.out.mono ?_; rintro e w2 ⟨g1, g2, rfl, i1, i2, l1, l2, hne, hb2⟩; refine Hid.out ?_)
    refine Nu.hid ?_
    have hs2 := hb2.size
    have gl1 := i1.lt
    have gl2 := i2.lt
    obtain ⟨w3, hw3⟩ : ∃ w3, w3 = w2.alloc (.cells #[.slice (some ⟨g1, 0, none⟩) es.length es.length, .slice (some ⟨g2, 0, none⟩) es.length es.length, .slice none 0 0, .slice none 0 0] 31) := ⟨_, rfl⟩
    have hb3 : Below w2.heap.size w2 w3 := by rw [hw3]; exact (Below.refl _ _).alloc (Nat.le_refl _) _
    have hs3 : w3.heap.size = w2.heap.size + 1 := by rw [hw3]; simp
    have lb3 : w3.heap[w2.heap.size]? = some (.cells #[.slice (some ⟨g1, 0, none⟩) es.length es.length, .slice (some ⟨g2, 0, none⟩) es.length es.length, .slice none 0 0, .slice none 0 0] 31 (0, 0)) := by rw [hw3]; exact heap_alloc_new w2 _
    have hB13 : Below w1.heap.size w1 w3 := hb2.trans (hb3.mono hb2.size)
    have HNS := Nu.hid (nests_any g1 g2 w3 (HWD.out.later hB13) (i1.later hb3).ins (i2.later hb3).ins)
    have HW3 := Nu.hid hw3
    have HB13 := Nu.hid hB13
    have HI1 := Nu.hid (i1.later hb3)
    have HI2 := Nu.hid (i2.later hb3)
    have HLB3 := Nu.hid lb3
    clear hw3 hb3 hb2 i1 i2 hB13 lb3
    go_wp2_with (go_at_call 21; rw [← HW3.out]; refine HNS.out.mono ?_; rintro e w4 ⟨g3, rfl, i3, l3, hb4⟩; refine Hid.out ?_)
    refine Nu.hid ?_
    have hs4 := hb4.size
    have gl3 := i3.lt
    have lb4 := (hb4.block _ (lt_of_block HLB3.out)).trans HLB3.out
    obtain ⟨y0, y1, y2, y3, yf⟩ := four_cells lb4
    obtain ⟨w5, hw5⟩ : ∃ w5, w5 = w4.setCell ⟨w2.heap.size, 2, none⟩ (.slice (some ⟨g3, 0, none⟩) es.length es.length) := ⟨_, rfl⟩
    have hb5o : ∀ b, b ≠ w2.heap.size → w5.heap[b]? = w4.heap[b]? := fun b hb => by rw [hw5]; exact heap_setCell_other w4 ⟨w2.heap.size, 2, none⟩ b _ hb
    have hs5 : w5.heap.size = w4.heap.size := by rw [hw5]; simp
    have lb5 : w5.heap[w2.heap.size]? = some (.cells #[.slice (some ⟨g1, 0, none⟩) es.length es.length, .slice (some ⟨g2, 0, none⟩) es.length es.length, .slice (some ⟨g3, 0, none⟩) es.length es.length, .slice none 0 0] 31 (0, 0)) := by
      rw [hw5]
      have := setCell_at (i := 2) lb4 (.slice (some ⟨g3, 0, none⟩) es.length es.length)
      exact this
    have hB15 : Below w1.heap.size w1 w5 := by rw [hw5]; exact (HB13.out.trans (hb4.mono HB13.out.size)).setCell (p := ⟨w2.heap.size, 2, none⟩) (by show w1.heap.size ≤ w2.heap.size; omega) _
    have i35 : IntsBlk w5 g3 (upTo (Lo.nest es s) es.length) := (hb5o g3 (by omega)).trans i3
    have HI15 : Hid (IntsBlk w5 g1 (upTo (Lo.low es s) es.length)) := (hb5o g1 (by omega)).trans (HI1.out.later hb4)
    have HI25 : Hid (IntsBlk w5 g2 (upTo (Lo.low2 es s) es.length)) := (hb5o g2 (by omega)).trans (HI2.out.later hb4)
    have HOS := Nu.hid (outs_any g3 w5 (HWD.out.later hB15) i35.ins)
    have HW5 := Nu.hid hw5
    have HB15 := Nu.hid hB15
    have HI35 := Nu.hid i35
    have HLB5 := Nu.hid lb5
    have z2 : w5.cell? ⟨w2.heap.size, 2, none⟩ = some (.slice (some ⟨g3, 0, none⟩) es.length es.length) := (four_cells lb5).2.2.1
    rw [hw5] at z2
    clear hw5 hb4 i3 hB15 i35 lb5 lb4 y0 y1 y3
    go_wp2_with (go_at_call 22; rw [← HW5.out]; refine HOS.out.mono ?_; rintro e w6 ⟨vo, vs, rfl, hro, hb6⟩; refine Hid.out ?_)
    refine Nu.hid ?_
    clear z2 y2 yf
    have hs6 := hb6.size
    have lb6 := (hb6.block _ (lt_of_block HLB5.out)).trans HLB5.out
    obtain ⟨y0, y1, y2, y3, yf⟩ := four_cells lb6
    obtain ⟨go, gc, hvo⟩ := row_shape hro
    subst hvo
    rw [Lo.outTo_len]
    obtain ⟨w7, hw7⟩ : ∃ w7, w7 = w6.setCell ⟨w2.heap.size, 3, none⟩ (.slice go m gc) := ⟨_, rfl⟩
    have hb7o : ∀ b, b ≠ w2.heap.size → w7.heap[b]? = w6.heap[b]? := fun b hb => by rw [hw7]; exact heap_setCell_other w6 ⟨w2.heap.size, 3, none⟩ b _ hb
    have lb7 : w7.heap[w2.heap.size]? = some (.cells #[.slice (some ⟨g1, 0, none⟩) es.length es.length, .slice (some ⟨g2, 0, none⟩) es.length es.length, .slice (some ⟨g3, 0, none⟩) es.length es.length, .slice go m gc] 31 (0, 0)) := by
      rw [hw7]
      exact setCell_at (i := 3) lb6 (.slice go m gc)
    have hB17 : Below w1.heap.size w1 w7 := by rw [hw7]; exact (HB15.out.trans (hb6.mono HB15.out.size)).setCell (p := ⟨w2.heap.size, 3, none⟩) (by show w1.heap.size ≤ w2.heap.size; omega) _
    have r7 := (hB17.block _ (lt_of_block HR1.out)).trans HR1.out
    obtain ⟨q0, q1, q2, q3, -⟩ := four_cells lb7
    obtain ⟨t0, t1, t2, t3, tf⟩ := four_cells r7
    have hg16 : ∀ b, b < w5.heap.size → b ≠ w2.heap.size → w7.heap[b]? = w5.heap[b]? := fun b hb hne => (hb7o b hne).trans (hb6.block b hb)
    have HI17 : Hid (IntsBlk w7 g1 (upTo (Lo.low es s) es.length)) := (hg16 g1 (by omega) (by omega)).trans HI15.out
    have HI27 : Hid (IntsBlk w7 g2 (upTo (Lo.low2 es s) es.length)) := (hg16 g2 (by omega) (by omega)).trans HI25.out
    have HI37 : Hid (IntsBlk w7 g3 (upTo (Lo.nest es s) es.length)) := (hg16 g3 (by omega) (by omega)).trans HI35.out
    have HRO7 : Hid (RowsZ w7 w5.heap.size (.slice go m gc) vs (Lo.outTo m es s es.length)) := by
      rw [Lo.outTo_len] at hro
      exact hro.same fun g hg _ => hb7o g (by omega)
    have HB17 := Nu.hid (HB1.out.trans (hB17.mono HB1.out.size))
    have HR7 := Nu.hid r7
    have HW7 := Nu.hid hw7
    rw [hw7] at q0 q1 q2 q3 t0 t1 t2 t3 tf
    clear hro hb6 hb7o hg16 hB17 r7 lb7 lb6 hw7 y0 y1 y2
    go_wp2
    rw [← HW7.out]
    obtain ⟨Y, hY⟩ : ∃ Y, Y = put4 w7 (w.heap.size + 1 + 1) (.slice (some ⟨g1, 0, none⟩) es.length es.length) (.slice (some ⟨g2, 0, none⟩) es.length es.length) (.slice (some ⟨g3, 0, none⟩) es.length es.length) (.slice go m gc) := ⟨_, rfl⟩
    have hYR := put4_heap (B := w.heap.size + 1 + 1) HR7.out (.slice (some ⟨g1, 0, none⟩) es.length es.length) (.slice (some ⟨g2, 0, none⟩) es.length es.length) (.slice (some ⟨g3, 0, none⟩) es.length es.length) (.slice go m gc)
    rw [← hY] at hYR
    have hYb : Below w.heap.size w Y := by rw [hY]; exact below_put4 HB17.out (by omega) _ _ _ _
    have hYo : ∀ b, b ≠ w.heap.size + 1 + 1 → Y.heap[b]? = w7.heap[b]? := fun b hb => by rw [hY]; exact put4_other hb _ _ _ _
    obtain ⟨v0, v1, v2, v3, -⟩ := four_cells hYR
    unfold put4 at hY
    rw [← hY]
    refine bodyPost_ret (v := .tuple #[.agg #[.slice (some ⟨g1, 0, none⟩) es.length es.length, .slice (some ⟨g2, 0, none⟩) es.length es.length, .slice (some ⟨g3, 0, none⟩) es.length es.length, .slice go m gc], .int .i64 0]) (by simp [results, Tryz.results8, go_sem, v0, v1, v2, v3]) rfl ?_
    have o1 : IntsBlk Y g1 (upTo (Lo.low es s) es.length) := (hYo g1 (by omega)).trans HI17.out
    have o2 : IntsBlk Y g2 (upTo (Lo.low2 es s) es.length) := (hYo g2 (by omega)).trans HI27.out
    have o3 : IntsBlk Y g3 (upTo (Lo.nest es s) es.length) := (hYo g3 (by omega)).trans HI37.out
    refine ⟨_, _, _, _, vs, _, _, _, _, _, w5.heap.size, rfl, .inr (.inr ⟨m, rfl, HWD.out.val, HWD.out.vf, rfl, rfl, rfl, rfl, rfl⟩), o1.own (by omega) (upTo_len _ _) (by omega), o2.own (by omega) (upTo_len _ _) (by omega), o3.own (by omega) (upTo_len _ _) (by omega), HRO7.out.same fun g hg _ => hYo g (by omega), by omega, fun b hb => ?_, fun b hb => ?_, fun b hb => ?_, hYb⟩
    · have hb : g1 = b := Option.some.inj hb
      exact ⟨by omega, (fun e => by have e : g2 = b := Option.some.inj e; omega), (fun e => by have e : g3 = b := Option.some.inj e; omega)⟩
    · have hb : g2 = b := Option.some.inj hb
      exact ⟨by omega, (fun e => by have e : g3 = b := Option.some.inj e; omega)⟩
    · have hb : g3 = b := Option.some.inj hb
      omega

theorem pof_any (n : Int) (ao : Option Addr) (cap : Nat) (es : List (Int × Int)) (f : For) (s : Df.St) (w : World) (he : EdgesAt w ao es) (hl : es.length ≤ 4611686018427387904) (hF : LstF w f s) :
    Calls Tryz.prog 8 #[.agg #[.int .i64 n, .slice ao es.length cap], f.val s] w (LowPost8 n es s w) := (pof_new n ao cap es f s w he hl hF).mono fun _ _ h => h.low

end Go.Proofs.YtmgoahbloppdmaaGreat

/-
  Those below a vertex stand side by side in a forest's order; pure.
-/
namespace Go.Proofs.YtmgoahbloppdmaaGreat
namespace Lo
open Df
section
variable {n : Nat} {es : List (Int × Int)} {s : St}

theorem side_down : ∀ (d k : Nat), (∃ q, side n es s (k + d) = some q) → ∃ q, side n es s k = some q
  | 0, _, h => h
  | d + 1, k, ⟨q, h⟩ => by
    have h' : side n es s ((k + d) + 1) = some q := h
    unfold side at h'
    cases hs : side n es s (k + d) with
    | none => rw [hs] at h'; cases h'
    | some q' => exact side_down d k ⟨q', hs⟩

/-- The way of the next vertex goes on from the way of this one. -/
theorem way_next (hs : ∃ q, side n es s n = some q) {j : Nat} (hj : j + 1 < n) : ∃ X Y, wayAt n es s j = X ++ Y ∧ wayAt n es s (j + 1) = at_ s.ord (j + 1) :: Y := by
  obtain ⟨q2, h2⟩ := side_down (es := es) (s := s) (n := n) (n - (j + 2)) (j + 2) (by rw [show j + 2 + (n - (j + 2)) = n by omega]; exact hs)
  have h2' : side n es s ((j + 1) + 1) = some q2 := h2
  unfold side at h2'
  cases h1 : side n es s (j + 1) with
  | none => rw [h1] at h2'; cases h2'
  | some q1 =>
    rw [h1, Option.bind_some] at h2'
    obtain ⟨X, hX, -, -⟩ := leave_way (p := up es s (at_ s.ord (j + 1))) (i := ((j + 1 : Nat) : Int)) q1.1 q1.2
    split at h2'
    · cases h2'
    · have e := Option.some.inj h2'
      refine ⟨X, (leave (up es s (at_ s.ord (j + 1))) ((j + 1 : Nat) : Int) q1.1 q1.2).1, ?_, ?_⟩
      · unfold wayAt
        rw [h1]
        exact hX
      · unfold wayAt
        rw [h2, ← e]
        rfl

/-- The vertex at place j. -/
def vAt (s : St) (j : Nat) : Nat := (at_ s.ord j).toNat
theorem vAt_eq (h : VF n es s) {j : Nat} (hj : j < n) : at_ s.ord j = (vAt s j : Int) ∧ vAt s j < n := by
  have := (h.once j hj).1
  unfold vAt
  omega

theorem anc_way (h : VF n es s) {j : Nat} (hj : j < n) {u : Int} : Anc es s u (vAt s j) ↔ u ∈ wayAt n es s j := by
  obtain ⟨⟨W, B⟩, hs⟩ := h.side
  obtain ⟨-, ⟨Y, hY⟩, hw, -, -⟩ := (side_inv h.once n (Nat.le_refl _) W B hs).hist j hj
  rw [(vAt_eq h hj).1] at hY
  rw [hY] at hw ⊢
  exact Anc.iff hw

/-- Who stands behind one that is below v, higher than v, is below v too. -/
theorem below_next (hv : Si.Val n es) (h : VF n es s) {v j : Nat} (hvn : v < n) (hj : j + 1 < n) (ha : Anc es s v (vAt s j)) (hh : at_ s.hei v < at_ s.hei (vAt s (j + 1))) : Anc es s v (vAt s (j + 1)) := by
  obtain ⟨X, Y, e1, e2⟩ := way_next (es := es) h.side hj
  obtain ⟨⟨W, B⟩, hs⟩ := h.side
  obtain ⟨-, -, hw1, hl1, -⟩ := (side_inv h.once n (Nat.le_refl _) W B hs).hist j (by omega)
  obtain ⟨-, -, hw2, hl2, -⟩ := (side_inv h.once n (Nat.le_refl _) W B hs).hist (j + 1) hj
  rw [anc_way h (by omega)] at ha ⊢
  rw [e2] at hw2 hl2 ⊢
  rw [e1] at hw1 hl1 ha
  rcases List.mem_append.1 ha with hx | hy
  · exfalso
    obtain ⟨X1, X2, rfl⟩ := List.append_of_mem hx
    have hn := hv.hi
    rw [(vAt_eq h hj).1] at hw2
    have k2 := height_way hv h.hang Y (vAt s (j + 1)) (vAt_eq h hj).2 hw2 (by simp at hl2; omega)
    have hw3 : IsWay es s ((v : Int) :: (X2 ++ Y)) := by
      have : X1 ++ (v : Int) :: X2 ++ Y = X1 ++ ((v : Int) :: (X2 ++ Y)) := by simp
      rw [this] at hw1
      exact hw1.tail
    have k1 := height_way hv h.hang (X2 ++ Y) v hvn hw3 (by simp at hl1 ⊢; omega)
    rw [k1, k2] at hh
    simp at hh
    omega
  · exact List.mem_cons_of_mem _ hy

/-- Those from place a on, as long as they stand higher than v. -/
theorem below_run (hv : Si.Val n es) (h : VF n es s) {v a : Nat} (hvn : v < n) (ha : a < n) (hva : vAt s a = v) : ∀ k, a + k < n → (∀ i, 0 < i → i ≤ k → at_ s.hei v < at_ s.hei (vAt s (a + i))) → Anc es s v (vAt s (a + k))
  | 0, _, _ => by
    rw [Nat.add_zero, hva]
    exact anc_self h hvn
  | k + 1, hk, hh => below_next hv h hvn hk (below_run hv h hvn ha hva k (by omega) fun i h0 h1 => hh i h0 (by omega)) (hh (k + 1) (by omega) (Nat.le_refl _))

/-- So they are those below. -/
theorem below_iff (hv : Si.Val n es) (h : VF n es s) {v a k : Nat} (hvn : v < n) (ha : a < n) (hva : vAt s a = v) (hk : 0 < k) (hak : a + k ≤ n) (hh : ∀ i, 0 < i → i < k → at_ s.hei v < at_ s.hei (vAt s (a + i))) (hend : a + k < n → at_ s.hei (vAt s (a + k)) ≤ at_ s.hei v)
    {x : Nat} (hx : x < n) : Anc es s v x ↔ ∃ i, i < k ∧ vAt s (a + i) = x := by
  constructor
  · intro hanc
    obtain ⟨j, hj, ej⟩ := h.once.onto hx
    have hjx : vAt s j = x := by unfold vAt; rw [ej]; simp
    have haj := anc_place h ha hj (by rw [(vAt_eq h ha).1, hva]) ej hanc
    rcases Nat.lt_or_ge j (a + k) with hlt | hge
    · exact ⟨j - a, by omega, by rw [show a + (j - a) = j by omega]; exact hjx⟩
    · exfalso
      have hlt : a + k < n := by omega
      have hne := hend hlt
      obtain ⟨⟨W, B⟩, hs⟩ := h.side
      have hp := places_is h
      have hy := (vAt_eq h hlt).2
      have p1 := hp.2 a ha
      have p2 := hp.2 j hj
      have p3 := hp.2 (a + k) hlt
      rw [(vAt_eq h ha).1, hva, Int.toNat_natCast] at p1
      rw [ej, Int.toNat_natCast] at p2
      rw [(vAt_eq h hlt).1, Int.toNat_natCast] at p3
      have h1 := (above_iff h.once hs hp hvn hx).2 hanc
      have h2 := (above_iff h.once hs hp hvn hy).1 ⟨by omega, by omega⟩
      have hvy : v ≠ vAt s (a + k) := fun e => by
        have := (vAt_eq h hlt).1
        have h4 := (vAt_eq h ha).1
        rw [hva, e, ← this] at h4
        exact h.once.ne ha hlt (by omega) h4
      have := anc_height hv h.once h.hang h.side hy hvy h2
      omega
  · rintro ⟨i, hi, rfl⟩
    exact below_run hv h hvn ha hva i (by omega) fun i' h0 h1 => hh i' h0 (by omega)
end
end Lo
end Go.Proofs.YtmgoahbloppdmaaGreat

/-
  slices.Index; below: the vertices below a vertex, a piece of the order.
-/
namespace Go.Proofs.YtmgoahbloppdmaaGreat
open Go.RowKit

section
variable {p : Nat} {av : Value} {n : Nat} {es : List (Int × Int)} {f : For} {s : Df.St}

set_option maxRecDepth 100000 in
set_option maxHeartbeats 4000000 in
theorem index8_any (b o m c a : Nat) (l : List Int) (x : Int) (w : World) (hm : m ≤ 8388608) (hc : ∀ i, i < m → w.cell? ⟨b, o + i, none⟩ = some (.int .i64 (Df.at_ l i))) (ha : a < m) (hx : Df.at_ l a = x) (hno : ∀ i, i < a → Df.at_ l i ≠ x) :
    Calls Tryz.prog 65 #[.slice (some ⟨b, o, none⟩) m c, .int .i64 x] w fun e w' => e = .returned (.int .i64 (a : Int)) ∧ w' = w := by
  have HC := Nu.hid hc
  have HNO := Nu.hid hno
  clear hc hno
  go_enter Tryz.func65, Tryz.ntmps65
  go_wp2
  go_loopw [8] (fun i wr => ∃ k : Nat, k ≤ a ∧ i = .int .i64 (k : Int) ∧ wr = w) (fun i _ => m - (intOf i).toNat)
  case atStart => exact ⟨0, Nat.zero_le _, rfl, rfl⟩
  case round =>
    obtain ⟨k, hk, rfl, rfl⟩ := hrel
    have cz := HC.out k (by omega)
    obtain ⟨z, hz⟩ : ∃ z, Df.at_ l k = z := ⟨_, rfl⟩
    rw [hz] at cz
    have k0 : (0 : Int) ≤ (k : Int) := by omega
    have k1 : (k : Int) < (m : Int) := by omega
    by_cases e : k = a
    · subst e
      obtain rfl : z = x := hz.symm.trans hx
      clear hx hz
      go_wp2
      go_ret
      exact ⟨rfl, rfl⟩
    · have hzx : ¬ x = z := fun e2 => HNO.out k (by omega) (hz.trans e2.symm)
      clear hx hz
      go_wp2
      go_roundw
      case rel => exact ⟨k + 1, by omega, by go_num, trivial⟩
      case measure => simp [intOf]; omega

def BelPost (n : Nat) (s : Df.St) (v : Nat) (w : World) (e : Ending) (w' : World) : Prop :=
  ∃ a k b o c, a < n ∧ Lo.vAt s a = v ∧ 0 < k ∧ a + k ≤ n ∧ (∀ i, 0 < i → i < k → Df.at_ s.hei v < Df.at_ s.hei (Lo.vAt s (a + i))) ∧ (a + k < n → Df.at_ s.hei (Lo.vAt s (a + k)) ≤ Df.at_ s.hei v) ∧
    e = .returned (.slice (some ⟨b, o, none⟩) k c) ∧ (∀ W, Below w.heap.size w W → ∀ i, i < k → W.cell? ⟨b, o + i, none⟩ = some (.int .i64 (Lo.vAt s (a + i) : Int))) ∧ Below w.heap.size w w'

set_option maxRecDepth 100000 in
set_option maxHeartbeats 16000000 in
theorem below8_any (v : Nat) (w : World) (hd : Wd w p av n es f s) (hv : v < n) (hcap : n ≤ f.c3) :
    Calls Tryz.prog 45 #[.pointer (some ⟨p, 0, none⟩), .int .i64 (v : Int)] w (BelPost n s v w) := by
  have hn := hd.val.hi
  obtain ⟨a, ha, hea⟩ := hd.vf.once.onto hv
  have hva : Lo.vAt s a = v := by unfold Lo.vAt; rw [hea]; simp
  obtain ⟨b3, o3, e3, d3⟩ := hd.ord hv
  obtain ⟨b2, o2, e2, d2⟩ := hd.hei hv
  have HIX : Hid (∀ D : LW w, Calls Tryz.prog 65 #[.slice (some ⟨b3, o3, none⟩) n f.c3, .int .i64 (v : Int)] D.val fun e w' => e = .returned (.int .i64 (a : Int)) ∧ Below D.val.heap.size D.val w') := fun D => (index8_any b3 o3 n f.c3 a s.ord (v : Int) D.val (by omega) (fun i hi => d3 D.val D.h i hi) ha hea (fun i hi => by
    rw [← hea]
    exact hd.vf.once.ne (by omega) ha (by omega))).mono fun e w' ⟨h1, h2⟩ => ⟨h1, by rw [h2]; exact Below.refl _ _⟩
  have c3 : ∀ D : LW w, D.val.cell? ⟨p, 3, none⟩ = some (.slice (some ⟨b3, o3, none⟩) n f.c3) := fun D => by have := (hd.later D.h).c3; rwa [e3] at this
  have c2 := hd.c2
  rw [e2] at c2
  have hne := LW.any w
  have a0 : (0 : Int) ≤ (a : Int) := by omega
  have a1 : (a : Int) < (n : Int) := by omega
  have HD3 := Nu.hid d3
  have HD2 := Nu.hid d2
  have HVF := Nu.hid hd.vf
  clear hd d3 d2 e3 e2
  go_enter Tryz.func45, Tryz.ntmps45
  go_wp2_with fail
  refine wp_region_lw (by kernel_rfl) (by kernel_rfl) ?_
  repeat (go_big_quiet_step ((first | (go_at_call 65; exact Calls.lw (HIX.out _)))))
  refine wpQuiet_nil ?_
  rintro _ ⟨D, rfl⟩
  clear c2 c3 hne
  go_wp2
  obtain ⟨N, hN⟩ : ∃ N, n - a = N := ⟨_, rfl⟩
  obtain ⟨C, hC⟩ : ∃ C, f.c3 - a = C := ⟨_, rfl⟩
  rw [hN, hC]
  have hNC : N ≤ C := by omega
  have hN1 : (N : Int) ≤ 1048576 := by omega
  have HVA : Hid (∀ j, j < n → Df.at_ s.ord j = (Lo.vAt s j : Int) ∧ Lo.vAt s j < n) := fun j hj => Lo.vAt_eq HVF.out hj
  have HBD := Nu.hid D.h
  go_loopw [29] (fun i wr => ∃ k : Nat, k ≤ N ∧ i = .int .i64 (k : Int) ∧ (∀ j, 0 < j → j < k → Df.at_ s.hei v < Df.at_ s.hei (Lo.vAt s (a + j))) ∧ Below w.heap.size w wr) (fun i _ => N - (intOf i).toNat)
  case atStart => exact ⟨0, Nat.zero_le _, rfl, fun j h0 h1 => by omega, HBD.out⟩
  case round =>
    obtain ⟨k, hk, rfl, hrun, hb⟩ := hrel
    by_cases hlt : k < N
    · have k0 : (0 : Int) ≤ (k : Int) := by omega
      have k1 : (k : Int) < (N : Int) := by omega
      obtain ⟨q1, q2⟩ := HVA.out (a + k) (by omega)
      have cz := HD3.out wr hb (a + k) (by omega)
      rw [q1] at cz
      rw [← Nat.add_assoc] at cz
      obtain ⟨x, hx⟩ : ∃ x, Lo.vAt s (a + k) = x := ⟨_, rfl⟩
      rw [hx] at cz q2
      have dx : ∀ D : LW wr, D.val.cell? ⟨b2, o2 + x, none⟩ = some (.int .i64 (Df.at_ s.hei x)) := fun D => HD2.out D.val (hb.trans (D.h.mono hb.size)) x q2
      have dv : ∀ D : LW wr, D.val.cell? ⟨b2, o2 + v, none⟩ = some (.int .i64 (Df.at_ s.hei v)) := fun D => HD2.out D.val (hb.trans (D.h.mono hb.size)) v hv
      obtain ⟨hxx, ehx⟩ : ∃ h, Df.at_ s.hei x = h := ⟨_, rfl⟩
      obtain ⟨hvv, ehv⟩ : ∃ h, Df.at_ s.hei v = h := ⟨_, rfl⟩
      rw [ehx] at dx
      rw [ehv] at dv hrun
      have x0 : (0 : Int) ≤ (x : Int) := by omega
      have x1 : (x : Int) < (n : Int) := by omega
      have v0 : (0 : Int) ≤ (v : Int) := by omega
      have v1 : (v : Int) < (n : Int) := by omega
      have hne := LW.any wr
      have HRUN := Nu.hid hrun
      have HB := Nu.hid hb
      have HX := Nu.hid hx
      have HEX := Nu.hid ehx
      have HEV := Nu.hid ehv
      clear hrun hb hx ehx ehv q1 q2
      by_cases hk0 : k = 0
      · subst hk0
        rw [Nat.add_zero] at cz
        have z1 : (0 : Int) < (N : Int) := by omega
        clear k0 k1
        go_wp2_with fail
        refine wp_region_lw (by kernel_rfl) (by kernel_rfl) ?_
        repeat (go_big_quiet_step (fail))
        refine wpQuiet_nil ?_
        rintro _ ⟨E, rfl⟩
        clear dx dv hne
        go_wp2
        go_roundw
        case rel => exact ⟨1, by omega, by go_num, fun j h0 h1 => by omega, HB.out.trans (E.h.mono HB.out.size)⟩
        case measure => simp [intOf]; omega
      · have c1 : (0 : Int) < (k : Int) := by omega
        have c1n : 0 < k := by omega
        by_cases c2 : hxx ≤ hvv
        · have kC : (k : Int) ≤ (C : Int) := by omega
          go_wp2_with fail
          refine wp_region_lw (by kernel_rfl) (by kernel_rfl) ?_
          repeat (go_big_quiet_step (fail))
          refine wpQuiet_nil ?_
          rintro _ ⟨E, rfl⟩
          clear dx dv hne
          go_wp2
          go_ret
          refine ⟨a, k, b3, o3 + a, _, ha, hva, by omega, by omega, fun j h0 h1 => by rw [HEV.out]; exact HRUN.out j h0 h1, fun _ => by rw [HX.out, HEX.out, HEV.out]; exact c2, rfl, fun V hV i hi => ?_, HB.out.trans (E.h.mono HB.out.size)⟩
          have := HD3.out V hV (a + i) (by omega)
          rw [(HVA.out (a + i) (by omega)).1, ← Nat.add_assoc] at this
          exact this
        · go_wp2_with fail
          refine wp_region_lw (by kernel_rfl) (by kernel_rfl) ?_
          repeat (go_big_quiet_step (fail))
          refine wpQuiet_nil ?_
          rintro _ ⟨E, rfl⟩
          clear dx dv hne
          go_wp2
          go_roundw
          case rel =>
            refine ⟨k + 1, by omega, by go_num, fun j h0 h1 => ?_, HB.out.trans (E.h.mono HB.out.size)⟩
            by_cases e : j = k
            · subst e
              rw [HX.out, HEX.out, HEV.out]
              omega
            · rw [HEV.out]
              exact HRUN.out j h0 (by omega)
          case measure => simp [intOf]; omega
    · have hd : ¬ ((k : Int) < (N : Int)) := by omega
      have HRUN := Nu.hid hrun
      have HB := Nu.hid hb
      clear hrun hb
      go_wp2
      go_ret
      refine ⟨a, N, b3, o3 + a, _, ha, hva, by omega, by omega, fun j h0 h1 => HRUN.out j h0 (by omega), fun h => by omega, rfl, fun V hV i hi => ?_, HB.out⟩
      have := HD3.out V hV (a + i) (by omega)
      rw [(HVA.out (a + i) (by omega)).1, ← Nat.add_assoc] at this
      exact this
end

end Go.Proofs.YtmgoahbloppdmaaGreat
