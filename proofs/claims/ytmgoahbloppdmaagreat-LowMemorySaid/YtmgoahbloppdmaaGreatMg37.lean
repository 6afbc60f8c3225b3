import Derived.Test.YtmgoahbloppdmaaGreatMg20
import Derived.Test.YtmgoahbloppdmaaGreatMg36
import Derived.Test.YtmgoahbloppdmaaGreatMg08
/-
  The document's Of of layer 8: the walk.
-/
namespace Go.Proofs.YtmgoahbloppdmaaGreat
open Go.RowKit

/-- Lists that are nil. -/
theorem rows_made {V : World} {B n : Nat} {t : Obj} (hB : B ≤ V.heap.size) (hn : n ≤ 8388608) (ht : t = .cells (Array.replicate n (Value.slice none 0 0)) 25 (0, 0)) : RowsZ (V.alloc t) B (.slice (some ⟨V.heap.size, 0, none⟩) n n) (List.replicate n (.slice none 0 0)) (List.replicate n []) := by
  subst ht
  refine ⟨by simp, ⟨by simp, .inr ⟨V.heap.size, n, Array.replicate n (Value.slice none 0 0), by simp, hB, heap_alloc_new V _, by simp, by unfold maxLen; omega, by simp, by simp⟩⟩, fun u x l hx hl => ?_, fun u u' x x' b _ hx _ hb => ?_, fun u x b hx hb => ?_⟩
  · rw [List.getElem?_replicate] at hx hl
    split at hx
    · rename_i hu
      rw [if_pos hu] at hl
      cases hx
      cases hl
      exact OwnZ.nil _ _
    · cases hx
  · rw [List.getElem?_replicate] at hx
    split at hx
    · cases hx; cases hb
    · cases hx
  · rw [List.getElem?_replicate] at hx
    split at hx
    · cases hx; cases hb
    · cases hx

section
variable {n : Nat} {ao : Option Addr} {ca : Nat} {es : List (Int × Int)} {f : For} {s : Df.St}

set_option maxRecDepth 100000 in
set_option maxHeartbeats 16000000 in
theorem r8ofs_any (w : World) (he : EdgesAt w ao es) (hv : Si.Val n es) (hF : LstF w f s) (hVF : Df.VF n es s) :
    Calls Tryz.prog 7 #[.agg #[.int .i64 (n : Int), .slice ao es.length ca], f.val s] w (LowPost8 n es s w) := by
  obtain ⟨i1, hi1, hy0, hy1, hy2⟩ := info_parts Tryz.infoRow
  obtain ⟨j0, hj, hj0, hj1, hj2⟩ := info_parts Tryz.infoNum
  obtain ⟨l1, l2, l3, l4⟩ := hVF.lens
  have hfew := hv.few
  have hnn := hv.hi
  obtain ⟨W, hW⟩ : ∃ W, W = (bxw w n ao ca es f s).alloc (.cells #[.slice none 0 0, .slice none 0 0, .slice none 0 0, .slice none 0 0] 31) := ⟨_, rfl⟩
  have hbx : BxAt w W n ao ca es f s := by rw [hW]; exact BxAt.new.later ((Below.refl _ _).alloc (Nat.le_refl _) _)
  have hR : W.heap[w.heap.size + 2]? = some (.cells #[.slice none 0 0, .slice none 0 0, .slice none 0 0, .slice none 0 0] 31 (0, 0)) := by
    rw [hW]
    exact alloc_at (by simp)
  have HBX := Nu.hid hbx
  have HR := Nu.hid hR
  have HF : Hid (∀ V, BxAt w V n ao ca es f s → LstF V f s) := fun V hV => hF.later hV.bel
  have HEN : Hid (∀ V (k : Nat), BxAt w V n ao ca es f s → k < es.length → Calls Tryz.prog 18 #[.agg #[.int .i64 (n : Int), .slice ao es.length ca], .agg #[.slice f.a1 s.par.length f.c1, .slice f.a2 s.hei.length f.c2, .slice f.a3 s.ord.length f.c3, .slice f.a4 s.ori.length f.c4], .int .i64 (k : Int)] V fun r w' => r = .returned (.tuple #[.int .i64 (Lo.fr es s k : Int), .int .i64 (Lo.go_ es s k : Int)]) ∧ Below V.heap.size V w') := fun V k hV hk => r8ends_any (f := f) k (he.later hV.bel) hv (hF.later hV.bel) hVF hk
  have HOF : Hid (∀ V (k : Nat), BxAt w V n ao ca es f s → k < es.length → Calls Tryz.prog 17 #[.agg #[.int .i64 (n : Int), .slice ao es.length ca], .agg #[.slice f.a1 s.par.length f.c1, .slice f.a2 s.hei.length f.c2, .slice f.a3 s.ord.length f.c3, .slice f.a4 s.ori.length f.c4], .int .i64 (k : Int)] V fun r w' => r = .returned (.tuple #[.int .i64 (Lo.low es s k), .int .i64 (Lo.low2 es s k), .int .i64 (Lo.nest es s k)]) ∧ Below V.heap.size V w') := fun V k hV hk => r8of_any (f := f) k (he.later hV.bel) hv (hF.later hV.bel) hVF hk
  have hrv := rvalid_any n ao ca es W (he.later hbx.bel) (by omega)
  have e0 : Si.valid n es = true := Si.valid_iff.2 hv
  rw [e0] at hrv
  unfold graphVal at hrv
  have HRV := Nu.hid hrv
  have HDV : Hid (∀ V, BxAt w V n ao ca es f s → Calls Tryz.prog 16 #[.agg #[.int .i64 (n : Int), .slice ao es.length ca], .agg #[.slice f.a1 s.par.length f.c1, .slice f.a2 s.hei.length f.c2, .slice f.a3 s.ord.length f.c3, .slice f.a4 s.ori.length f.c4]] V fun e w' => e = .returned (.bool true) ∧ Below V.heap.size V w') := fun V hV => by
    have := rdvalid_any n ao ca es f s V (he.later hV.bel) (by omega) (hF.later hV.bel)
    unfold graphVal For.val at this
    exact BoolPost.yes this ⟨n, rfl, hv, hVF⟩
  have HV := Nu.hid hv
  have HVF := Nu.hid hVF
  have hmk : ∀ V, (Instr.makeSlice 29 (.int .i64 (n : Int)) (.int .i64 (n : Int))).run Tryz.prog V = .ok (.slice (some ⟨V.heap.size, 0, none⟩) n n) (V.alloc (.cells (Array.replicate n (Value.slice none 0 0)) 25)) := fun V => by
    have := run_make (P := Tryz.prog) V 29 25 i1 (.slice none 0 0) Tryz.underlying29 hi1 hy0 .i64 .i64 (n : Int) (n : Int) (by omega) (Int.le_refl _) (by rw [hy2]; omega) (by omega)
    rw [this, hy1]
    have e : madeCells #[Value.slice none 0 0] n = Array.replicate n (Value.slice none 0 0) := by
      apply Array.ext'
      rw [toList_madeCells_one]
      simp
    simp [Value.cells, e]
  obtain ⟨a1, a2, a3, a4, c1, c2, c3, c4⟩ := f
  have x0 := hbx.x0
  have x1 := hbx.x1
  have k0 := hbx.k0
  have k1 := hbx.k1
  have k2 := hbx.k2
  have k3 := hbx.k3
  unfold For.val
  unfold bxw at hW
  dsimp only at hW HEN HOF HDV k0 k1 k2 k3 ⊢
  rw [l1, l2, l3, l4] at hW HEN HOF HDV ⊢
  rw [l1] at k0
  rw [l2] at k1
  rw [l3] at k2
  rw [l4] at k3
  have HW := Nu.hid hW
  rw [hW] at x0 x1 k0 k1 k2 k3
  clear hF hbx he hrv hR e0 hv hVF hW
  go_enter Tryz.func7, Tryz.ntmps7
  go_wp2_with (go_at_call 15; rw [← HW.out]; refine HRV.out.mono ?_; rintro r w1 ⟨rfl, hb1⟩; refine Hid.out ?_)
  refine Nu.hid ?_
  have hq1 := HBX.out.later hb1
  have x0 := hq1.x0
  have x1 := hq1.x1
  have k0 := hq1.k0
  have k1 := hq1.k1
  have k2 := hq1.k2
  have k3 := hq1.k3
  dsimp only at k0 k1 k2 k3
  rw [l1] at k0
  rw [l2] at k1
  rw [l3] at k2
  rw [l4] at k3
  have HD1 := Nu.hid (HDV.out w1 hq1)
  have HQ1 := Nu.hid hq1
  have HR1 := Nu.hid ((hb1.block _ (lt_of_block HR.out)).trans HR.out)
  clear hq1 hb1
  go_wp2_with (go_at_call 16; refine HD1.out.mono ?_; rintro r w3 ⟨rfl, hb3⟩; refine Hid.out ?_)
  refine Nu.hid ?_
  have hq3 := HQ1.out.later hb3
  have HQ3 := Nu.hid hq3
  have hR3 := (hb3.block _ (lt_of_block HR1.out)).trans HR1.out
  have HR3 := Nu.hid hR3
  have x0 := hq3.x0
  have hsz3 := lt_of_block hR3
  -- the lists
  obtain ⟨w4, hw4⟩ : ∃ w4, w4 = (w3.alloc (.cells (Array.replicate n (Value.slice none 0 0)) 25)).alloc (.cells #[.slice none 0 0, .slice none 0 0, .slice none 0 0, .slice (some ⟨w3.heap.size, 0, none⟩) n n] 31) := ⟨_, rfl⟩
  have hl4 : L4 w4 w3.heap.size (w3.heap.size + 1) w3.heap.size n (.slice none 0 0) (.slice none 0 0) (.slice none 0 0) (upTo (Lo.low es s) 0) (upTo (Lo.low2 es s) 0) (upTo (Lo.nest es s) 0) (List.replicate n (.slice none 0 0)) (List.replicate n []) := by
    have hr := rows_made (V := w3) (B := w3.heap.size) (n := n) (Nat.le_refl _) (by omega) rfl
    have hno : ∀ b, ¬ inV (List.replicate n (Value.slice none 0 0)) b := fun b ⟨u, x, hx, hb⟩ => by
      rw [List.getElem?_replicate] at hx
      split at hx
      · cases hx; cases hb
      · cases hx
    rw [hw4]
    exact ⟨alloc_at (by simp), OwnZ.nil _ _, OwnZ.nil _ _, OwnZ.nil _ _, hr.later ((Below.refl _ _).alloc (Nat.le_refl _) _), by simp, (fun b hb => by cases hb), (fun b hb => by cases hb), (fun b hb => by cases hb), (fun b hb => by cases hb), (fun b hb => by cases hb), (fun b hb => by cases hb), by omega, hno _, by omega⟩
  have hb4 : Below w3.heap.size w3 w4 := by rw [hw4]; exact ((Below.refl _ _).alloc (Nat.le_refl _) _).alloc (by simp) _
  have HL4 := Nu.hid hl4
  have HB4 := Nu.hid hb4
  have HW4 := Nu.hid hw4
  clear hq3 hb3 hR3 hl4 hb4 hw4 x1 k0 k1 k2 k3
  go_wp2
  rw [← HW4.out]
  clear x0 hmk
  have HBXV : Hid (∀ V, Below w3.heap.size w3 V → BxAt w V n ao ca es ⟨a1, a2, a3, a4, c1, c2, c3, c4⟩ s) := fun V hV => ⟨HQ3.out.bel.trans (hV.mono HQ3.out.bel.size), (hV.block _ (by omega)).trans HQ3.out.g, (hV.block _ (by omega)).trans HQ3.out.k⟩
  go_loopw [7] (fun c7 wr => ∃ (k : Nat) (v1 v2 v3 : Value), k ≤ es.length ∧ c7 = .int .i64 (k : Int) ∧ L4 wr w3.heap.size (w3.heap.size + 1) w3.heap.size n v1 v2 v3 (upTo (Lo.low es s) k) (upTo (Lo.low2 es s) k) (upTo (Lo.nest es s) k) (List.replicate n (.slice none 0 0)) (List.replicate n []) ∧ Below w3.heap.size w3 wr) (fun c7 _ => es.length - (intOf c7).toNat)
  case atStart => exact ⟨0, _, _, _, Nat.zero_le _, rfl, HL4.out, HB4.out⟩
  case round =>
    obtain ⟨k, v1, v2, v3, hk, rfl, hl, hb⟩ := hrel
    have hq := HBXV.out wr hb
    have x0 := hq.x0
    have x1 := hq.x1
    have k0 := hq.k0
    have k1 := hq.k1
    have k2 := hq.k2
    have k3 := hq.k3
    dsimp only at k0 k1 k2 k3
    rw [l1] at k0
    rw [l2] at k1
    rw [l3] at k2
    rw [l4] at k3
    have HB := Nu.hid hb
    have HL := Nu.hid hl
    by_cases hlt : k < es.length
    · have hlti : (k : Int) < (es.length : Int) := by omega
      have HLT := Nu.hid hlt
      have HOK := Nu.hid (HOF.out wr k hq hlt)
      obtain ⟨q1, hq1⟩ : ∃ q, Lo.low es s k = q := ⟨_, rfl⟩
      obtain ⟨q2, hq2⟩ : ∃ q, Lo.low2 es s k = q := ⟨_, rfl⟩
      obtain ⟨q3, hq3⟩ : ∃ q, Lo.nest es s k = q := ⟨_, rfl⟩
      rw [hq1, hq2, hq3] at HOK
      have HU1 : Hid (upTo (Lo.low es s) (k + 1) = upTo (Lo.low es s) k ++ [q1]) := by rw [← hq1]; exact upTo_succ _ _
      have HU2 : Hid (upTo (Lo.low2 es s) (k + 1) = upTo (Lo.low2 es s) k ++ [q2]) := by rw [← hq2]; exact upTo_succ _ _
      have HU3 : Hid (upTo (Lo.nest es s) (k + 1) = upTo (Lo.nest es s) k ++ [q3]) := by rw [← hq3]; exact upTo_succ _ _
      clear hl hb hq hq1 hq2 hq3 hlt
      go_wp2_with (go_at_call 17; refine HOK.out.mono ?_; rintro r w5 ⟨rfl, hb5⟩; refine Hid.out ?_)
      refine Nu.hid ?_
      have hl5 := HL.out.later hb5
      have hB5 : Below w3.heap.size w3 w5 := HB.out.trans (hb5.mono HB.out.size)
      have hs5 := hB5.size
      obtain ⟨y0, y1, y2, y3, -⟩ := hl5.cells
      have HO : Hid (w5.ownsRow w3.heap.size 3 1 v1 (upTo (Lo.low es s) k).length ((upTo (Lo.low es s) k).map (Value.int .i64))) := hl5.o1
      have HLa := Nu.hid hl5
      have HBa := Nu.hid hB5
      clear hl5 hB5
      go_wp2_with (at_builtin; refine Hid.out ?_)
      refine Nu.hid ?_
      refine wpList_append_own_at _ rfl _ _ 25 rfl w3.heap.size 3 j0 (.int .i64 0) 1 8 Tryz.underlying25 hj hj0 hj1 hj2 rfl (by decide) _ _ _ rfl (World.ownsRow.alloc HO.out _) ⟨w5.heap.size, 0, none⟩ 1 1 [.int .i64 q1] rfl rfl (cell_one_new _ _ _) (by simp [Value.oneCell']) (by rw [upTo_len]; unfold maxLen; omega) (by rw [upTo_len]; omega) (by rw [World.size_alloc]; omega) ?_
      intro u1 w6a hown1 hg1 _ hat1
      have hz1 : OwnZ w6a w3.heap.size u1 (upTo (Lo.low es s) (k + 1)) := by
        rw [HU1.out]
        unfold OwnZ
        rw [List.length_append, List.map_append]
        exact hown1
      rw [HU1.out] at hz1
      obtain ⟨cp1, fp1, hn1⟩ := HLa.out.push1 hz1 hg1 (by have h := hat1; simp only [World.size_alloc] at h; exact h)
      obtain ⟨w6, hw6⟩ : ∃ W, W = w6a.setCell ⟨w3.heap.size + 1, 0, none⟩ u1 := ⟨_, rfl⟩
      have hBn1 : Below w3.heap.size w3 w6 := by
        rw [hw6]
        exact Below.pushed HBa.out HBa.out.size hg1 (fun b hb => (HLa.out.o1.lt hb).1) (by omega)
      rw [← hw6, ← HU1.out] at hn1
      have hsn1 := hBn1.size
      have HW1 := Nu.hid hw6
      have HSZ1 : Hid (w6.heap.size = w6a.heap.size) := by
        have h : w6.heap.size = w6a.heap.size := by rw [hw6]; simp
        exact h
      obtain ⟨g1, d1, rfl⟩ := own_succ hown1
      clear hown1 hg1 hat1 hz1 hw6 y0 y1 y2 y3 HO HLa HBa
      obtain ⟨p0, p1, p2, p3, -⟩ := hn1.cells
      rw [HW1.out] at p0 p1 p2 p3
      have HO : Hid (w6.ownsRow w3.heap.size 3 1 v2 (upTo (Lo.low2 es s) k).length ((upTo (Lo.low2 es s) k).map (Value.int .i64))) := hn1.o2
      have HLa := Nu.hid hn1
      have HBa := Nu.hid hBn1
      clear hn1 hBn1
      go_wp2_with (at_builtin; refine Hid.out ?_)
      refine Nu.hid ?_
      rw [← HW1.out]
      refine wpList_append_own_at _ rfl _ _ 25 rfl w3.heap.size 3 j0 (.int .i64 0) 1 8 Tryz.underlying25 hj hj0 hj1 hj2 rfl (by decide) _ _ _ rfl (World.ownsRow.alloc HO.out _) ⟨w6a.heap.size, 0, none⟩ 1 1 [.int .i64 q2] rfl rfl (by rw [← HSZ1.out]; exact cell_one_new _ _ _) (by simp [Value.oneCell']) (by rw [upTo_len]; unfold maxLen; omega) (by rw [upTo_len]; omega) (by rw [World.size_alloc]; omega) ?_
      intro u2 w7a hown2 hg2 _ hat2
      have hz2 : OwnZ w7a w3.heap.size u2 (upTo (Lo.low2 es s) k ++ [q2]) := by
        unfold OwnZ
        rw [List.length_append, List.map_append]
        exact hown2
      obtain ⟨cp2, fp2, hn2⟩ := HLa.out.push2 hz2 hg2 (by have h := hat2; simp only [World.size_alloc] at h; exact h)
      obtain ⟨w7, hw7⟩ : ∃ W, W = w7a.setCell ⟨w3.heap.size + 1, 1, none⟩ u2 := ⟨_, rfl⟩
      have hBn2 : Below w3.heap.size w3 w7 := by
        rw [hw7]
        exact Below.pushed HBa.out HBa.out.size hg2 (fun b hb => (HLa.out.o2.lt hb).1) (by omega)
      rw [← hw7, ← HU2.out] at hn2
      have hsn2 := hBn2.size
      have HW2 := Nu.hid hw7
      have HSZ2 : Hid (w7.heap.size = w7a.heap.size) := by
        have h : w7.heap.size = w7a.heap.size := by rw [hw7]; simp
        exact h
      obtain ⟨g2, d2, rfl⟩ := own_succ hown2
      clear hown2 hg2 hat2 hz2 hw7 p0 p1 p2 p3 HO HLa HBa
      obtain ⟨p0, p1, p2, p3, -⟩ := hn2.cells
      rw [HW2.out] at p0 p1 p2 p3
      have HO : Hid (w7.ownsRow w3.heap.size 3 1 v3 (upTo (Lo.nest es s) k).length ((upTo (Lo.nest es s) k).map (Value.int .i64))) := hn2.o3
      have HLa := Nu.hid hn2
      have HBa := Nu.hid hBn2
      clear hn2 hBn2
      go_wp2_with (at_builtin; refine Hid.out ?_)
      refine Nu.hid ?_
      rw [← HW2.out]
      refine wpList_append_own_at _ rfl _ _ 25 rfl w3.heap.size 3 j0 (.int .i64 0) 1 8 Tryz.underlying25 hj hj0 hj1 hj2 rfl (by decide) _ _ _ rfl (World.ownsRow.alloc HO.out _) ⟨w7a.heap.size, 0, none⟩ 1 1 [.int .i64 q3] rfl rfl (by rw [← HSZ2.out]; exact cell_one_new _ _ _) (by simp [Value.oneCell']) (by rw [upTo_len]; unfold maxLen; omega) (by rw [upTo_len]; omega) (by rw [World.size_alloc]; omega) ?_
      intro u3 w8a hown3 hg3 _ hat3
      have hz3 : OwnZ w8a w3.heap.size u3 (upTo (Lo.nest es s) k ++ [q3]) := by
        unfold OwnZ
        rw [List.length_append, List.map_append]
        exact hown3
      obtain ⟨cp3, fp3, hn3⟩ := HLa.out.push3 hz3 hg3 (by have h := hat3; simp only [World.size_alloc] at h; exact h)
      obtain ⟨w8, hw8⟩ : ∃ W, W = w8a.setCell ⟨w3.heap.size + 1, 2, none⟩ u3 := ⟨_, rfl⟩
      have hBn3 : Below w3.heap.size w3 w8 := by
        rw [hw8]
        exact Below.pushed HBa.out HBa.out.size hg3 (fun b hb => (HLa.out.o3.lt hb).1) (by omega)
      rw [← hw8, ← HU3.out] at hn3
      have hsn3 := hBn3.size
      have HW3 := Nu.hid hw8
      obtain ⟨g3, d3, rfl⟩ := own_succ hown3
      clear hown3 hg3 hat3 hz3 hw8 p0 p1 p2 p3 HO HLa HBa
      have HN3 := Nu.hid hn3
      have HB3' := Nu.hid hBn3
      clear hn3 hBn3
      go_wp2
      rw [← HW3.out]
      go_roundw
      case rel => exact ⟨k + 1, _, _, _, by have := HLT.out; omega, by go_num, HN3.out, HB3'.out⟩
      case measure => have := HLT.out; simp [intOf]; omega
    · have hd : ¬ ((k : Int) < (es.length : Int)) := by omega
      obtain rfl : es.length = k := by omega
      clear hl hb hq hlt
      go_wp2
      clear hd x0 x1 k0 k1 k2 k3
      have HE : Hid (∀ V, Below w3.heap.size w3 V → V.heap[w.heap.size + 2]? = some (.cells #[.slice none 0 0, .slice none 0 0, .slice none 0 0, .slice none 0 0] 31 (0, 0))) := fun V hV => (hV.block _ hsz3).trans HR3.out
      go_loopw [11] (fun c11 wx => ∃ (k : Nat) (vs : List Value), k ≤ es.length ∧ c11 = .int .i64 (k : Int) ∧ L4 wx w3.heap.size (w3.heap.size + 1) w3.heap.size n v1 v2 v3 (upTo (Lo.low es s) es.length) (upTo (Lo.low2 es s) es.length) (upTo (Lo.nest es s) es.length) vs (Lo.outTo n es s k) ∧ Below w3.heap.size w3 wx) (fun c11 _ => es.length - (intOf c11).toNat)
      case atStart => exact ⟨0, _, Nat.zero_le _, rfl, HL.out, HB.out⟩
      case round =>
        obtain ⟨k, vs, hk, rfl, hl, hb⟩ := hrel
        have hq := HBXV.out wr hb
        have x0 := hq.x0
        have x1 := hq.x1
        have k0 := hq.k0
        have k1 := hq.k1
        have k2 := hq.k2
        have k3 := hq.k3
        dsimp only at k0 k1 k2 k3
        rw [l1] at k0
        rw [l2] at k1
        rw [l3] at k2
        rw [l4] at k3
        have HLx := Nu.hid hl
        have HBx := Nu.hid hb
        by_cases hlt : k < es.length
        · have hlti : (k : Int) < (es.length : Int) := by omega
          have hk0 : (0 : Int) ≤ (k : Int) := by omega
          have HLT := Nu.hid hlt
          have hfn := (Lo.ends_lt HV.out HVF.out hlt).1
          have HEK := Nu.hid (HEN.out wr k hq hlt)
          obtain ⟨L, hL⟩ : ∃ L, (Lo.outTo n es s k).getD (Lo.fr es s k) [] = L := ⟨_, rfl⟩
          have hLr : (Lo.outTo n es s k)[Lo.fr es s k]? = some L := by
            rw [← hL, List.getD_eq_getElem?_getD, List.getElem?_eq_getElem (by rw [Lo.outTo_len]; exact hfn)]
            rfl
          have hLh := Lo.outTo_half HV.out HVF.out k hk L (List.mem_of_getElem? hLr)
          have HSUC : Hid (Lo.outTo n es s (k + 1) = (Lo.outTo n es s k).set (Lo.fr es s k) (Lo.put (fun x => decide (Lo.nest es s k < Lo.nest es s (x.toNat / 2))) (Df.at_ s.ori k) L)) := by
            have h : Lo.outTo n es s (k + 1) = (Lo.outTo n es s k).set (Lo.fr es s k) (Lo.put (fun x => decide (Lo.nest es s k < Lo.nest es s (x.toNat / 2))) (Df.at_ s.ori k) L) := by
              rw [← hL]
              rfl
            exact h
          obtain ⟨v, hv'⟩ : ∃ v, Lo.fr es s k = v := ⟨_, rfl⟩
          rw [hv'] at HEK hLr hfn HSUC
          have v0 : (0 : Int) ≤ (v : Int) := by omega
          have v1' : (v : Int) < (n : Int) := by omega
          obtain ⟨x, hx⟩ := hl.rows.at' hLr
          obtain ⟨xo, xc, hxe, -, -⟩ := (hl.rows.row v x L hx hLr).form
          subst hxe
          have HX := Nu.hid hx
          have HLR := Nu.hid hLr
          have HLH := Nu.hid hLh
          have hLl := hLh.2
          -- the half-edge, by the forest
          have hoh := (Lo.oh_of HVF.out hlt).1
          obtain ⟨h, hh⟩ : ∃ h, Df.at_ s.ori k = h := ⟨_, rfl⟩
          rw [hh] at HSUC
          obtain ⟨b4, o4, e4, -⟩ := lst_at (HF.out wr hq).l4 (i := k) (by omega)
          dsimp only at e4
          subst e4
          have HCH : Hid (∀ V, Below w3.heap.size w3 V → V.cell? ⟨b4, o4 + k, none⟩ = some (.int .i64 h)) := fun V hV => by
            obtain ⟨b', o', e', d'⟩ := lst_at (HF.out V (HBXV.out V hV)).l4 (i := k) (by omega)
            cases e'
            rw [show s.ori.getD k (-1) = h from hh] at d'
            exact d'
          have HK3 : Hid (∀ V, Below w3.heap.size w3 V → V.cell? ⟨w.heap.size + 1, 3, none⟩ = some (.slice (some ⟨b4, o4, none⟩) es.length c4)) := fun V hV => by
            have := (HBXV.out V hV).k3
            dsimp only at this
            rw [l4] at this
            exact this
          obtain ⟨no, nc, hne, -, -⟩ := hl.o3.form
          rw [upTo_len] at hne
          have hg3 : ∃ g3, no = some ⟨g3, 0, none⟩ := by
            have ho3 := hl.o3
            rw [hne] at ho3
            obtain ⟨g3, e, _⟩ := own_cell8 ho3 (upTo_at (f := Lo.nest es s) hlt)
            exact ⟨g3, e⟩
          obtain ⟨g3, rfl⟩ := hg3
          subst hne
          have HNC : Hid (∀ V vs' k' (b : Nat), L4 V w3.heap.size (w3.heap.size + 1) w3.heap.size n v1 v2 (.slice (some ⟨g3, 0, none⟩) es.length nc) (upTo (Lo.low es s) es.length) (upTo (Lo.low2 es s) es.length) (upTo (Lo.nest es s) es.length) vs' (Lo.outTo n es s k') → b < es.length → V.cell? ⟨g3, b, none⟩ = some (.int .i64 (Lo.nest es s b))) := fun V vs' k' b hV hb => by
            obtain ⟨g', e', h'⟩ := own_cell8 hV.o3 (upTo_at (f := Lo.nest es s) hb)
            cases e'
            exact h'
          clear hl hb hq hlt hL hv' hx hLr hLh hoh hh
          go_wp2_with (go_at_call 18; refine HEK.out.mono ?_; rintro r w9 ⟨rfl, hb9⟩; refine Hid.out ?_)
          refine Nu.hid ?_
          have HL9 := Nu.hid (HLx.out.later hb9)
          have HB9 := Nu.hid (HBx.out.trans (hb9.mono HBx.out.size))
          clear hb9 x0 x1 k0 k1 k2 k3
          go_wp2
          go_loopw [14, 15, 16] (fun c14 c15 c16 wy => ∃ (i : Nat) (l : List Int) (d : Bool), i ≤ L.length ∧ c16 = .int .i64 (i : Int) ∧ c15 = .bool d ∧ Hid (OwnZ wy w3.heap.size c14 l ∧ Lo.Got (fun x => decide (Lo.nest es s k < Lo.nest es s (x.toNat / 2))) h L i l d ∧ (∀ b, Value.ownBlock c14 = some b → Aw (w3.heap.size + 1) w3.heap.size v1 v2 (.slice (some ⟨g3, 0, none⟩) es.length nc) vs b) ∧ L4 wy w3.heap.size (w3.heap.size + 1) w3.heap.size n v1 v2 (.slice (some ⟨g3, 0, none⟩) es.length nc) (upTo (Lo.low es s) es.length) (upTo (Lo.low2 es s) es.length) (upTo (Lo.nest es s) es.length) vs (Lo.outTo n es s k) ∧ Below w3.heap.size w3 wy)) (fun _ _ c16 _ => L.length - (intOf c16).toNat)
          case atStart => exact ⟨0, [], false, Nat.zero_le _, rfl, rfl, OwnZ.nil _ _, Lo.Got.start, (fun b hb => by cases hb), HL9.out, HB9.out⟩
          case round =>
            obtain ⟨i, l, d, hi, rfl, rfl, HI⟩ := hrel
            have hl4 := HI.out.2.2.2.1
            have hbw := HI.out.2.2.2.2
            have HOl := Nu.hid HI.out.1
            have HGt := Nu.hid HI.out.2.1
            have HAl := Nu.hid HI.out.2.2.1
            have HLl := Nu.hid hl4
            have HBl := Nu.hid hbw
            have HLEN : Hid (l.length ≤ 4194305) := by
              have h1 : l.length ≤ 4194305 := by have := HGt.out.len; omega
              exact h1
            obtain ⟨-, -, y2, y3, -⟩ := hl4.cells
            have yx := row_at8 hl4.rows HX.out
            have hrow := hl4.rows.row v _ L HX.out HLR.out
            by_cases hil : i < L.length
            · have hili : (i : Int) < (L.length : Int) := by omega
              have hi0 : (0 : Int) ≤ (i : Int) := by omega
              obtain ⟨hx, hxi⟩ : ∃ hx, L[i]? = some hx := ⟨_, List.getElem?_eq_getElem hil⟩
              obtain ⟨b, hbk, hbe⟩ := HLH.out.1 hx (List.mem_of_getElem? hxi)
              obtain ⟨ho1, ho2, ho3, ho4⟩ := Lo.oh_of HVF.out (show b < es.length by omega)
              obtain ⟨q, hq⟩ : ∃ q, Lo.oh s b = q := ⟨_, rfl⟩
              rw [hq] at ho1 ho2 ho3 ho4
              have hxq : hx = (q : Int) := by rw [hbe]; exact ho1
              obtain ⟨gx, hgx, yr⟩ := own_cell8 hrow hxi
              subst hgx
              have HP : Hid ((fun x : Int => decide (Lo.nest es s k < Lo.nest es s (x.toNat / 2))) hx = decide (Lo.nest es s k < Lo.nest es s b)) := by
                have e : hx.toNat / 2 = b := by rw [hxq, Int.toNat_natCast]; exact ho4
                show decide (Lo.nest es s k < Lo.nest es s (hx.toNat / 2)) = _
                rw [e]
              have yb := HNC.out _ _ _ b hl4 (by omega)
              have yk := HNC.out _ _ _ k hl4 HLT.out
              obtain ⟨mb, hmb⟩ : ∃ m, Lo.nest es s b = m := ⟨_, rfl⟩
              obtain ⟨mk, hmk⟩ : ∃ m, Lo.nest es s k = m := ⟨_, rfl⟩
              rw [hmb] at yb
              rw [hmk] at yk
              have HPB : Hid ((fun x : Int => decide (Lo.nest es s k < Lo.nest es s (x.toNat / 2))) hx = decide (mk < mb)) := by
                have h1 := HP.out
                rw [hmb] at h1
                exact h1.trans (by rw [hmk])
              have HXI := Nu.hid hxi
              have hbl : (b : Int) < (es.length : Int) := by omega
              have hb0 : (0 : Int) ≤ (b : Int) := by omega
              have htd : (q : Int).tdiv 2 = (b : Int) := by rw [Int.tdiv_eq_ediv_of_nonneg (by omega)]; omega
              have htd2 : (q : Int) / 2 = (b : Int) := by omega
              have hbw' : IntKind.i64.wrap (b : Int) = (b : Int) := by rw [IntKind.wrap_i64]; omega
              rw [hxq] at yr HXI HPB
              have ych := HCH.out wr hbw
              have yk3 := HK3.out wr hbw
              clear hl4 hbw hrow hxi hbe hxq hmb hmk HP hq ho1 ho2 ho3 ho4 hil
              cases d with
              | true =>
                go_wp2_with fail
                go_quiet (fail)
                obtain ⟨Vq, hVq⟩ : ∃ Vq, Vq = wr.drewN nq := ⟨_, rfl⟩
                rw [← hVq]
                have hbq : Below wr.heap.size wr Vq := by rw [hVq]; exact below_drewN (Below.refl _ _) _
                have HLq := Nu.hid (HLl.out.later hbq)
                have HOq := Nu.hid (HOl.out.later hbq)
                have HBq := Nu.hid (HBl.out.trans (hbq.mono HBl.out.size))
                clear hVq hbq y2 y3 yx yr yb yk ych yk3
                obtain ⟨-, -, z2, z3, -⟩ := HLq.out.cells
                have zx := row_at8 HLq.out.rows HX.out
                have zr : ∃ gx', (some ⟨gx, 0, none⟩ : Option Addr) = some ⟨gx', 0, none⟩ ∧ _ := own_cell8 (HLq.out.rows.row v _ L HX.out HLR.out) HXI.out
                obtain ⟨gx', ex', zr⟩ := zr
                cases ex'
                go_wp2_with (at_builtin; refine Hid.out ?_)
                refine Nu.hid ?_
                refine wpList_append_own_at _ rfl _ _ 25 rfl w3.heap.size 3 j0 (.int .i64 0) 1 8 Tryz.underlying25 hj hj0 hj1 hj2 rfl (by decide) _ _ _ rfl (World.ownsRow.alloc (show Vq.ownsRow w3.heap.size 3 1 u14 (l).length ((l).map (Value.int .i64)) from HOq.out) _) ⟨Vq.heap.size, 0, none⟩ 1 1 [.int .i64 (q : Int)] rfl rfl (cell_one_new _ _ _) (by simp [Value.oneCell']) (by unfold maxLen; have := HLEN.out; first | omega | (simp; omega)) (by have := HLEN.out; first | omega | (simp; omega)) (by rw [World.size_alloc]; have := HBq.out.size; omega) ?_
                intro uA Va hown hg _ hat
                have ho_Va : OwnZ Va w3.heap.size uA (l ++ [(q : Int)]) := by
                  unfold OwnZ
                  rw [List.length_append, List.map_append]
                  exact hown
                obtain ⟨hl_Va, ha_Va⟩ := HLq.out.app HAl.out hg (by have h := hat; simp only [World.size_alloc] at h; exact h)
                have hb_Va : Below w3.heap.size w3 Va := (HBq.out.alloc HBq.out.size _).grown hg (by rw [World.size_alloc]; have := HBq.out.size; omega) (fun b hb => (HOq.out.lt hb).1)
                obtain ⟨g_Va, d_Va, rfl⟩ := own_succ hown
                have HL_Va := Nu.hid hl_Va
                have HA_Va := Nu.hid ha_Va
                have HB_Va := Nu.hid hb_Va
                have HO_Va := Nu.hid ho_Va
                clear hown hg hat hl_Va ha_Va hb_Va ho_Va
                clear z2 z3 zx zr
                go_wp2
                go_roundw
                case rel => exact ⟨i + 1, l ++ [(q : Int)], true, by omega, by go_num, rfl, HO_Va.out, HGt.out.more HXI.out, HA_Va.out, HL_Va.out, HB_Va.out⟩
                case measure => simp [intOf]; omega
              | false =>
                by_cases hlt2 : mk < mb
                · have hpt : (fun x : Int => decide (Lo.nest es s k < Lo.nest es s (x.toNat / 2))) (q : Int) = true := by rw [HPB.out]; simpa using hlt2
                  have HPT := Nu.hid hpt
                  clear hpt
                  go_wp2_with fail
                  go_quiet (fail)
                  obtain ⟨Vq, hVq⟩ : ∃ Vq, Vq = wr.drewN nq := ⟨_, rfl⟩
                  rw [← hVq]
                  have hbq : Below wr.heap.size wr Vq := by rw [hVq]; exact below_drewN (Below.refl _ _) _
                  have HLq := Nu.hid (HLl.out.later hbq)
                  have HOq := Nu.hid (HOl.out.later hbq)
                  have HBq := Nu.hid (HBl.out.trans (hbq.mono HBl.out.size))
                  clear hVq hbq y2 y3 yx yr yb yk ych yk3
                  obtain ⟨-, -, z2, z3, -⟩ := HLq.out.cells
                  have zx := row_at8 HLq.out.rows HX.out
                  have zr : ∃ gx', (some ⟨gx, 0, none⟩ : Option Addr) = some ⟨gx', 0, none⟩ ∧ _ := own_cell8 (HLq.out.rows.row v _ L HX.out HLR.out) HXI.out
                  obtain ⟨gx', ex', zr⟩ := zr
                  cases ex'
                  have zch := HCH.out _ HBq.out
                  have zk3 := HK3.out _ HBq.out
                  go_wp2_with (at_builtin; refine Hid.out ?_)
                  refine Nu.hid ?_
                  refine wpList_append_own_at _ rfl _ _ 25 rfl w3.heap.size 3 j0 (.int .i64 0) 1 8 Tryz.underlying25 hj hj0 hj1 hj2 rfl (by decide) _ _ _ rfl (World.ownsRow.alloc (show Vq.ownsRow w3.heap.size 3 1 u14 (l).length ((l).map (Value.int .i64)) from HOq.out) _) ⟨Vq.heap.size, 0, none⟩ 1 1 [.int .i64 h] rfl rfl (cell_one_new _ _ _) (by simp [Value.oneCell']) (by unfold maxLen; have := HLEN.out; first | omega | (simp; omega)) (by have := HLEN.out; first | omega | (simp; omega)) (by rw [World.size_alloc]; have := HBq.out.size; omega) ?_
                  intro uA Va hown hg _ hat
                  have ho_Va : OwnZ Va w3.heap.size uA (l ++ [h]) := by
                    unfold OwnZ
                    rw [List.length_append, List.map_append]
                    exact hown
                  obtain ⟨hl_Va, ha_Va⟩ := HLq.out.app HAl.out hg (by have h := hat; simp only [World.size_alloc] at h; exact h)
                  have hb_Va : Below w3.heap.size w3 Va := (HBq.out.alloc HBq.out.size _).grown hg (by rw [World.size_alloc]; have := HBq.out.size; omega) (fun b hb => (HOq.out.lt hb).1)
                  obtain ⟨g_Va, d_Va, rfl⟩ := own_succ hown
                  have HL_Va := Nu.hid hl_Va
                  have HA_Va := Nu.hid ha_Va
                  have HB_Va := Nu.hid hb_Va
                  have HO_Va := Nu.hid ho_Va
                  clear hown hg hat hl_Va ha_Va hb_Va ho_Va
                  clear z2 z3 zx zr zch zk3
                  obtain ⟨-, -, z2, z3, -⟩ := HL_Va.out.cells
                  have zx := row_at8 HL_Va.out.rows HX.out
                  have zr : ∃ gx', (some ⟨gx, 0, none⟩ : Option Addr) = some ⟨gx', 0, none⟩ ∧ _ := own_cell8 (HL_Va.out.rows.row v _ L HX.out HLR.out) HXI.out
                  obtain ⟨gx', ex', zr⟩ := zr
                  cases ex'
                  go_wp2_with (at_builtin; refine Hid.out ?_)
                  refine Nu.hid ?_
                  refine wpList_append_own_at _ rfl _ _ 25 rfl w3.heap.size 3 j0 (.int .i64 0) 1 8 Tryz.underlying25 hj hj0 hj1 hj2 rfl (by decide) _ _ _ rfl (World.ownsRow.alloc (show Va.ownsRow w3.heap.size 3 1 (.slice (some ⟨g_Va, 0, none⟩) (l.length + 1) d_Va) (l ++ [h]).length ((l ++ [h]).map (Value.int .i64)) from HO_Va.out) _) ⟨Va.heap.size, 0, none⟩ 1 1 [.int .i64 (q : Int)] rfl rfl (cell_one_new _ _ _) (by simp [Value.oneCell']) (by unfold maxLen; have := HLEN.out; first | omega | (simp; omega)) (by have := HLEN.out; first | omega | (simp; omega)) (by rw [World.size_alloc]; have := HB_Va.out.size; omega) ?_
                  intro uB Vb hown hg _ hat
                  have ho_Vb : OwnZ Vb w3.heap.size uB (l ++ [h] ++ [(q : Int)]) := by
                    unfold OwnZ
                    rw [List.length_append, List.map_append]
                    exact hown
                  obtain ⟨hl_Vb, ha_Vb⟩ := HL_Va.out.app HA_Va.out hg (by have h := hat; simp only [World.size_alloc] at h; exact h)
                  have hb_Vb : Below w3.heap.size w3 Vb := (HB_Va.out.alloc HB_Va.out.size _).grown hg (by rw [World.size_alloc]; have := HB_Va.out.size; omega) (fun b hb => (HO_Va.out.lt hb).1)
                  obtain ⟨g_Vb, d_Vb, rfl⟩ := own_succ hown
                  have HL_Vb := Nu.hid hl_Vb
                  have HA_Vb := Nu.hid ha_Vb
                  have HB_Vb := Nu.hid hb_Vb
                  have HO_Vb := Nu.hid ho_Vb
                  clear hown hg hat hl_Vb ha_Vb hb_Vb ho_Vb
                  clear z2 z3 zx zr
                  go_wp2
                  go_roundw
                  case rel => exact ⟨i + 1, l ++ [h] ++ [(q : Int)], true, by omega, by go_num, rfl, (by have hh := HO_Vb.out; rw [List.length_append] at hh; exact hh), HGt.out.ahead HXI.out HPT.out, HA_Vb.out, HL_Vb.out, HB_Vb.out⟩
                  case measure => simp [intOf]; omega
                · have hpf : (fun x : Int => decide (Lo.nest es s k < Lo.nest es s (x.toNat / 2))) (q : Int) = false := by rw [HPB.out]; simpa using hlt2
                  have HPF := Nu.hid hpf
                  have t9 : decide (mk < mb) = false := by simp only [decide_eq_false_iff_not]; exact hlt2
                  clear hpf hlt2
                  go_wp2_with fail
                  go_quiet (fail)
                  obtain ⟨Vq, hVq⟩ : ∃ Vq, Vq = wr.drewN nq := ⟨_, rfl⟩
                  rw [← hVq]
                  have hbq : Below wr.heap.size wr Vq := by rw [hVq]; exact below_drewN (Below.refl _ _) _
                  have HLq := Nu.hid (HLl.out.later hbq)
                  have HOq := Nu.hid (HOl.out.later hbq)
                  have HBq := Nu.hid (HBl.out.trans (hbq.mono HBl.out.size))
                  clear hVq hbq y2 y3 yx yr yb yk ych yk3
                  obtain ⟨-, -, z2, z3, -⟩ := HLq.out.cells
                  have zx := row_at8 HLq.out.rows HX.out
                  have zr : ∃ gx', (some ⟨gx, 0, none⟩ : Option Addr) = some ⟨gx', 0, none⟩ ∧ _ := own_cell8 (HLq.out.rows.row v _ L HX.out HLR.out) HXI.out
                  obtain ⟨gx', ex', zr⟩ := zr
                  cases ex'
                  go_wp2_with (at_builtin; refine Hid.out ?_)
                  refine Nu.hid ?_
                  refine wpList_append_own_at _ rfl _ _ 25 rfl w3.heap.size 3 j0 (.int .i64 0) 1 8 Tryz.underlying25 hj hj0 hj1 hj2 rfl (by decide) _ _ _ rfl (World.ownsRow.alloc (show Vq.ownsRow w3.heap.size 3 1 u14 (l).length ((l).map (Value.int .i64)) from HOq.out) _) ⟨Vq.heap.size, 0, none⟩ 1 1 [.int .i64 (q : Int)] rfl rfl (cell_one_new _ _ _) (by simp [Value.oneCell']) (by unfold maxLen; have := HLEN.out; first | omega | (simp; omega)) (by have := HLEN.out; first | omega | (simp; omega)) (by rw [World.size_alloc]; have := HBq.out.size; omega) ?_
                  intro uA Va hown hg _ hat
                  have ho_Va : OwnZ Va w3.heap.size uA (l ++ [(q : Int)]) := by
                    unfold OwnZ
                    rw [List.length_append, List.map_append]
                    exact hown
                  obtain ⟨hl_Va, ha_Va⟩ := HLq.out.app HAl.out hg (by have h := hat; simp only [World.size_alloc] at h; exact h)
                  have hb_Va : Below w3.heap.size w3 Va := (HBq.out.alloc HBq.out.size _).grown hg (by rw [World.size_alloc]; have := HBq.out.size; omega) (fun b hb => (HOq.out.lt hb).1)
                  obtain ⟨g_Va, d_Va, rfl⟩ := own_succ hown
                  have HL_Va := Nu.hid hl_Va
                  have HA_Va := Nu.hid ha_Va
                  have HB_Va := Nu.hid hb_Va
                  have HO_Va := Nu.hid ho_Va
                  clear hown hg hat hl_Va ha_Va hb_Va ho_Va
                  clear z2 z3 zx zr
                  go_wp2
                  go_roundw
                  case rel => exact ⟨i + 1, l ++ [(q : Int)], false, by omega, by go_num, rfl, HO_Va.out, HGt.out.pass HXI.out HPF.out, HA_Va.out, HL_Va.out, HB_Va.out⟩
                  case measure => simp [intOf]; omega
            · have hd : ¬ ((i : Int) < (L.length : Int)) := by omega
              obtain rfl : L.length = i := by omega
              clear hil
              cases d with
              | true =>
                have HPU := Nu.hid HGt.out.end_yes
                obtain ⟨lo, lc, hle, -, -⟩ := HOl.out.form
                subst hle
                clear hl4 hbw hrow
                have hls : (Lo.outTo n es s k).set v l = Lo.outTo n es s (k + 1) := by rw [HSUC.out, ← HPU.out]
                obtain ⟨⟨yo, hyo⟩, hfo, hlay⟩ := HLl.out.lay hfn HOl.out HAl.out
                obtain ⟨-, -, -, s3, -⟩ := HLl.out.cells
                rw [hls] at hlay
                have hbs : Below w3.heap.size w3 (wr.setCell ⟨w3.heap.size, v, none⟩ (.slice lo l.length lc)) := HBl.out.setCell (p := ⟨w3.heap.size, v, none⟩) (Nat.le_refl _) _
                have HLAY := Nu.hid hlay
                have HBS := Nu.hid hbs
                clear hlay hbs hls
                go_wp2
                go_roundw
                case rel => exact ⟨k + 1, _, by have := HLT.out; omega, by go_num, HLAY.out, HBS.out⟩
                case measure => have := HLT.out; simp [intOf]; omega
              | false =>
                have HPU := Nu.hid HGt.out.end_no
                have ych := HCH.out wr hbw
                have yk3 := HK3.out wr hbw
                clear hl4 hbw hrow
                go_wp2_with (at_builtin; refine Hid.out ?_)
                refine Nu.hid ?_
                refine wpList_append_own_at _ rfl _ _ 25 rfl w3.heap.size 3 j0 (.int .i64 0) 1 8 Tryz.underlying25 hj hj0 hj1 hj2 rfl (by decide) _ _ _ rfl (World.ownsRow.alloc (show wr.ownsRow w3.heap.size 3 1 u14 (l).length ((l).map (Value.int .i64)) from HOl.out) _) ⟨wr.heap.size, 0, none⟩ 1 1 [.int .i64 h] rfl rfl (cell_one_new _ _ _) (by simp [Value.oneCell']) (by unfold maxLen; have := HLEN.out; first | omega | (simp; omega)) (by have := HLEN.out; first | omega | (simp; omega)) (by rw [World.size_alloc]; have := HBl.out.size; omega) ?_
                intro uA Va hown hg _ hat
                have ho_Va : OwnZ Va w3.heap.size uA (l ++ [h]) := by
                  unfold OwnZ
                  rw [List.length_append, List.map_append]
                  exact hown
                obtain ⟨hl_Va, ha_Va⟩ := HLl.out.app HAl.out hg (by have h := hat; simp only [World.size_alloc] at h; exact h)
                have hb_Va : Below w3.heap.size w3 Va := (HBl.out.alloc HBl.out.size _).grown hg (by rw [World.size_alloc]; have := HBl.out.size; omega) (fun b hb => (HOl.out.lt hb).1)
                obtain ⟨g_Va, d_Va, rfl⟩ := own_succ hown
                have HL_Va := Nu.hid hl_Va
                have HA_Va := Nu.hid ha_Va
                have HB_Va := Nu.hid hb_Va
                have HO_Va := Nu.hid ho_Va
                clear hown hg hat hl_Va ha_Va hb_Va ho_Va
                clear y2 y3 yx ych yk3
                have hls : (Lo.outTo n es s k).set v (l ++ [h]) = Lo.outTo n es s (k + 1) := by rw [HSUC.out, ← HPU.out]
                obtain ⟨⟨yo, hyo⟩, hfo, hlay⟩ := HL_Va.out.lay hfn HO_Va.out HA_Va.out
                obtain ⟨-, -, -, s3, -⟩ := HL_Va.out.cells
                rw [hls] at hlay
                have hbs : Below w3.heap.size w3 (Va.setCell ⟨w3.heap.size, v, none⟩ (.slice (some ⟨g_Va, 0, none⟩) (l.length + 1) d_Va)) := HB_Va.out.setCell (p := ⟨w3.heap.size, v, none⟩) (Nat.le_refl _) _
                have HLAY := Nu.hid hlay
                have HBS := Nu.hid hbs
                clear hlay hbs hls
                go_wp2
                go_roundw
                case rel => exact ⟨k + 1, _, by have := HLT.out; omega, by go_num, HLAY.out, HBS.out⟩
                case measure => have := HLT.out; simp [intOf]; omega
        · have hd : ¬ ((k : Int) < (es.length : Int)) := by omega
          obtain rfl : es.length = k := by omega
          obtain ⟨y0, y1, y2, y3, -⟩ := hl.cells
          have hRw := HE.out wr hb
          obtain ⟨s0, s1, s2, s3, sf⟩ := four_cells hRw
          obtain ⟨ao1, cp1, he1, -, -⟩ := hl.o1.form
          obtain ⟨ao2, cp2, he2, -, -⟩ := hl.o2.form
          obtain ⟨ao3, cp3, he3, -, -⟩ := hl.o3.form
          rw [upTo_len] at he1 he2 he3
          subst he1
          subst he2
          subst he3
          obtain ⟨r0, r1, r2, r3, -⟩ := four_cells (put4_heap hRw (.slice ao1 es.length cp1) (.slice ao2 es.length cp2) (.slice ao3 es.length cp3) (.slice (some ⟨w3.heap.size, 0, none⟩) n n))
          have R0 := Nu.hid r0
          have R1 := Nu.hid r1
          have R2 := Nu.hid r2
          have R3 := Nu.hid r3
          unfold put4 at R0 R1 R2 R3
          have hoth : ∀ b, w3.heap.size ≤ b → (put4 wr (w.heap.size + 2) (.slice ao1 es.length cp1) (.slice ao2 es.length cp2) (.slice ao3 es.length cp3) (.slice (some ⟨w3.heap.size, 0, none⟩) n n)).heap[b]? = wr.heap[b]? := fun b hb => put4_other (by omega) _ _ _ _
          have hB3 := HQ3.out.bel.size
          have HO1 := Nu.hid ((hl.o1.same fun b hb' _ => hoth b (hl.o1.lt hb').1).lower hB3)
          have HO2 := Nu.hid ((hl.o2.same fun b hb' _ => hoth b (hl.o2.lt hb').1).lower hB3)
          have HO3 := Nu.hid ((hl.o3.same fun b hb' _ => hoth b (hl.o3.lt hb').1).lower hB3)
          have HRO := Nu.hid ((hl.rows.same fun b hb1 hb2 => hoth b hb1).lower hB3)
          have HBZ := Nu.hid (below_put4 (HQ3.out.bel.trans (hb.mono hB3)) (R := w.heap.size + 2) (by omega) (.slice ao1 es.length cp1) (.slice ao2 es.length cp2) (.slice ao3 es.length cp3) (.slice (some ⟨w3.heap.size, 0, none⟩) n n))
          unfold put4 at HO1 HO2 HO3 HRO HBZ
          clear hl hb hq hlt hRw r0 r1 r2 r3 hoth
          go_wp2
          refine bodyPost_ret (v := .tuple #[.agg #[.slice ao1 es.length cp1, .slice ao2 es.length cp2, .slice ao3 es.length cp3, .slice (some ⟨w3.heap.size, 0, none⟩) n n], .int .i64 0]) (by simp [results, Tryz.results7, go_sem, R0.out, R1.out, R2.out, R3.out]) rfl ?_
          exact ⟨_, _, _, _, _, _, _, _, _, _, rfl, .inr (.inr ⟨n, rfl, HV.out, HVF.out, rfl, rfl, rfl, rfl, rfl⟩), HO1.out, HO2.out, HO3.out, HRO.out, HBZ.out⟩
end

end Go.Proofs.YtmgoahbloppdmaaGreat
