import Derived.Test.YtmgoahbloppdmaaGreatMg21
import Derived.Test.YtmgoahbloppdmaaGreatMg07
/-
  lows: Low and Low2 of all edges.
-/
namespace Go.Proofs.YtmgoahbloppdmaaGreat
open Go.RowKit Go.Shelf

attribute [local go_sem] Oper.semAt_some

section
variable {p : Nat} {av : Value} {n : Nat} {es : List (Int × Int)} {f : For} {s : Df.St}

set_option maxRecDepth 100000 in
set_option maxHeartbeats 16000000 in
theorem lows_any (w : World) (hd : Wd w p av n es f s) : Calls Tryz.prog 20 #[.pointer (some ⟨p, 0, none⟩)] w (LowsPost es s w) := by
  have hfew := hd.val.few
  obtain ⟨W, hW⟩ : ∃ W, W = (w.alloc (.cells #[.pointer (some ⟨p, 0, none⟩)] 54)).alloc (.cells #[.slice none 0 0, .slice none 0 0, .slice none 0 0, .slice none 0 0] 31) := ⟨_, rfl⟩
  have hbW : Below w.heap.size w W := by rw [hW]; exact ((Below.refl _ _).alloc (Nat.le_refl _) _).alloc (by simp) _
  have hWsz : W.heap.size = w.heap.size + 2 := by rw [hW]; simp
  have bw : Boxed W w.heap.size 54 (.pointer (some ⟨p, 0, none⟩)) := by rw [hW]; exact (Boxed.new w _ _).alloc _
  have hres : W.heap[w.heap.size + 1]? = some (.cells #[.slice none 0 0, .slice none 0 0, .slice none 0 0, .slice none 0 0] 31 (0, 0)) := by rw [hW]; exact alloc_at (by simp)
  have HM : Hid (∀ V, Below W.heap.size W V → Calls Tryz.prog 24 #[av] V fun e w' => e = .returned (.int .i64 (es.length : Int)) ∧ w' = V) := fun V hV => aM_any av n es V (hd.later (hbW.trans (hV.mono hbW.size))).adj
  have HS : Hid (∀ V, Below W.heap.size W V → (V.cell? ⟨w.heap.size, 0, none⟩ = some (.pointer (some ⟨p, 0, none⟩)) ∧ V.cell? ⟨p, 0, none⟩ = some av ∧ Below W.heap.size W V)) := fun V hV =>
    ⟨Boxed.cell ((hV.block _ bw.lt).trans bw), (hd.later (hbW.trans (hV.mono hbW.size))).c0, hV⟩
  obtain ⟨i0, hi, hz0, hz1, hz2⟩ := info_parts Tryz.infoNum
  have hmk : ∀ W, (Instr.makeSlice 25 (.int .i64 (es.length : Int)) (.int .i64 (es.length : Int))).run Tryz.prog W = .ok (.slice (some ⟨W.heap.size, 0, none⟩) es.length es.length) (W.alloc (.cells (madeCells #[.int .i64 0] es.length) 3)) := fun W => by
    have := run_make (P := Tryz.prog) W 25 3 i0 (.int .i64 0) Tryz.underlying25 hi hz0 .i64 .i64 (es.length : Int) (es.length : Int) (by omega) (by omega) (by rw [hz2]; omega) (by omega)
    rw [this, hz1]
    simp [Value.cells]
  have HWW := Nu.hid hW
  have HD := Nu.hid hd
  have hm1 : (es.length : Int) ≤ 4194304 := by omega
  clear hW hd
  refine (callsIn_wide (n := 13)).1 ?_
  refine callsIn_of_wp_marks Tryz.func20 rfl trivial ?_ rfl
  simp only [Tryz.ntmps20, List.size_toArray, List.length_cons, List.length_nil, Nat.reduceAdd, Nat.reduceSub, Array.replicate_succ, Array.replicate_zero, List.push_toArray, List.append_toArray, List.nil_append, List.cons_append]
  refine wpIn_wide.2 ?_
  go_wp2_with fail
  rename_i K hK
  rw [← HWW.out]
  have HK := Nu.hid hK
  clear hK
  have HMK : Hid (∀ V Lb g1 g2, Below W.heap.size W V → V.heap[Lb]? = some (.cells #[.slice (some ⟨g1, 0, none⟩) es.length es.length, .slice (some ⟨g2, 0, none⟩) es.length es.length, .slice none 0 0, .slice none 0 0] 31 (0, 0)) → IntsBlk V g1 (List.replicate es.length 0) → IntsBlk V g2 (List.replicate es.length 0) →
      w.heap.size + 2 ≤ Lb ∧ w.heap.size + 2 ≤ g1 ∧ w.heap.size + 2 ≤ g2 ∧ Lb ≠ g1 ∧ Lb ≠ g2 ∧ g1 ≠ g2 → LowsAt w V p es.length w.heap.size (w.heap.size + 1) Lb g1 g2) := fun V Lb g1 g2 hV h1 h2 h3 h4 =>
    ⟨hbW.trans (hV.mono hbW.size), (hV.block _ bw.lt).trans bw, (hV.block _ (lt_of_block hres)).trans hres, h1, h2, h3, by omega, by omega⟩
  go_region_held3 (fun V => V.cell? ⟨w.heap.size, 0, none⟩ = some (.pointer (some ⟨p, 0, none⟩)) ∧ V.cell? ⟨p, 0, none⟩ = some av ∧ Below W.heap.size W V)
    (exact HS.out _ (by repeat (first | exact Below.refl _ _ | refine bel_d ?_ | refine bel_a ?_ _)))
    ((go_at_call 24; refine (HM.out _ (by repeat (first | exact Below.refl _ _ | refine bel_d ?_ | refine bel_a ?_ _))).mono ?_; rintro e V1 ⟨rfl, rfl⟩))
  all_goals
    refine HK.out _ _ (lows_rest w _ w.heap.size (w.heap.size + 1) _ _ _ _ _ _ _ _ _ _ _ _ _ _ HD.out (HMK.out _ _ _ _ ?_ ?_ ?_ ?_ ?_))
    · repeat (first | exact Below.refl _ _ | refine bel_d ?_ | refine bel_a ?_ _)
    · refine drew_blk ?_
      repeat (first | (refine alloc_at ?_; first | omega | (simp only [World.size_alloc]; omega)) | refine heap_keep (by first | omega | (simp only [World.size_alloc]; omega)) ?_)
    · refine IntsBlk.drew ?_
      repeat (first | (refine made_blk ?_; first | omega | (simp only [World.size_alloc]; omega)) | refine IntsBlk.alloc ?_ _)
    · refine IntsBlk.drew ?_
      repeat (first | (refine made_blk ?_; first | omega | (simp only [World.size_alloc]; omega)) | refine IntsBlk.alloc ?_ _)
    · omega
end

end Go.Proofs.YtmgoahbloppdmaaGreat

/-
  nests: the nesting depths.
-/
namespace Go.Proofs.YtmgoahbloppdmaaGreat
open Go.RowKit

namespace Lo
open Df
section
variable {n : Nat} {es : List (Int × Int)} {s : St} {e : Nat}
theorem hf_lt (hv : Si.Val n es) (h : VF n es s) (he : e < es.length) : 0 ≤ hf es s e ∧ hf es s e < (n : Int) := by
  have := rooted_of hv h.once h.hang h.side _ (ends_lt hv h he).1
  exact ⟨this.1, this.2.1⟩
theorem low_rng (hv : Si.Val n es) (h : VF n es s) (he : e < es.length) : 0 ≤ low es s e ∧ low es s e ≤ low2 es s e ∧ low2 es s e ≤ hf es s e ∧ hf es s e < (n : Int) := ⟨low_nonneg hv h he, (low_le es s e).1, (low_le es s e).2, (hf_lt hv h he).2⟩
end
end Lo

section
variable {p : Nat} {av : Value} {n : Nat} {es : List (Int × Int)} {f : For} {s : Df.St}

def NestPost (es : List (Int × Int)) (s : Df.St) (w : World) (e : Ending) (w' : World) : Prop :=
  ∃ g3, e = .returned (.slice (some ⟨g3, 0, none⟩) es.length es.length) ∧ IntsBlk w' g3 (upTo (Lo.nest es s) es.length) ∧ w.heap.size ≤ g3 ∧ Below w.heap.size w w'

set_option maxRecDepth 100000 in
set_option maxHeartbeats 16000000 in
theorem nests_any (g1 g2 : Nat) (w : World) (hd : Wd w p av n es f s) (h1 : IntsIn w g1 (upTo (Lo.low es s) es.length)) (h2 : IntsIn w g2 (upTo (Lo.low2 es s) es.length)) :
    Calls Tryz.prog 21 #[.pointer (some ⟨p, 0, none⟩), .agg #[.slice (some ⟨g1, 0, none⟩) es.length es.length, .slice (some ⟨g2, 0, none⟩) es.length es.length, .slice none 0 0, .slice none 0 0]] w (NestPost es s w) := by
  have hfew := hd.val.few
  have hn := hd.val.hi
  obtain ⟨i0, hi, hz0, hz1, hz2⟩ := info_parts Tryz.infoNum
  have hmk : ∀ W, (Instr.makeSlice 25 (.int .i64 (es.length : Int)) (.int .i64 (es.length : Int))).run Tryz.prog W = .ok (.slice (some ⟨W.heap.size, 0, none⟩) es.length es.length) (W.alloc (.cells (madeCells #[.int .i64 0] es.length) 3)) := fun W => by
    have := run_make (P := Tryz.prog) W 25 3 i0 (.int .i64 0) Tryz.underlying25 hi hz0 .i64 .i64 (es.length : Int) (es.length : Int) (by omega) (by omega) (by rw [hz2]; omega) (by omega)
    rw [this, hz1]
    simp [Value.cells]
  obtain ⟨W0, hW0⟩ : ∃ W0, W0 = w.alloc (.cells #[.slice (some ⟨g1, 0, none⟩) es.length es.length, .slice (some ⟨g2, 0, none⟩) es.length es.length, .slice none 0 0, .slice none 0 0] 31) := ⟨_, rfl⟩
  obtain ⟨W, hW⟩ : ∃ W, W = W0.alloc (.cells (madeCells #[.int .i64 0] es.length) 3) := ⟨_, rfl⟩
  have hs0 : W0.heap.size = w.heap.size + 1 := by rw [hW0]; simp
  have hb0 : Below w.heap.size w W0 := by rw [hW0]; exact (Below.refl _ _).alloc (Nat.le_refl _) _
  have hbW : Below w.heap.size w W := by rw [hW]; exact hb0.alloc hb0.size _
  have hWsz : W.heap.size = w.heap.size + 2 := by rw [hW]; simp [hs0]
  have hLb0 : W0.heap[w.heap.size]? = some (.cells #[.slice (some ⟨g1, 0, none⟩) es.length es.length, .slice (some ⟨g2, 0, none⟩) es.length es.length, .slice none 0 0, .slice none 0 0] 31 (0, 0)) := by rw [hW0]; exact heap_alloc_new w _
  have hLb : W.heap[w.heap.size]? = some (.cells #[.slice (some ⟨g1, 0, none⟩) es.length es.length, .slice (some ⟨g2, 0, none⟩) es.length es.length, .slice none 0 0, .slice none 0 0] 31 (0, 0)) := by rw [hW, Below.heap_alloc _ _ _ (by omega)]; exact hLb0
  have hG : IntsBlk W (w.heap.size + 1) (List.replicate es.length 0) := by rw [hW]; exact made_blk hs0
  obtain ⟨x0, x1, -, -, -⟩ := four_cells hLb0
  have c4 := (hd.later hbW).c4
  have HD := Nu.hid hd
  have HLb := Nu.hid hLb
  have HI : Hid (∀ V, Below w.heap.size w V → IntsIn V g1 (upTo (Lo.low es s) es.length) ∧ IntsIn V g2 (upTo (Lo.low2 es s) es.length)) := fun V hV => ⟨h1.later hV, h2.later hV⟩
  have hgl : g1 < w.heap.size ∧ g2 < w.heap.size := ⟨h1.lt, h2.lt⟩
  have HG := Nu.hid hG
  have HBW := Nu.hid hbW
  rw [hW0] at x0
  rw [hW, hW0] at c4
  have HW : Hid (W = (w.alloc (.cells #[.slice (some ⟨g1, 0, none⟩) es.length es.length, .slice (some ⟨g2, 0, none⟩) es.length es.length, .slice none 0 0, .slice none 0 0] 31)).alloc (.cells (madeCells #[.int .i64 0] es.length) 3)) := by rw [← hW0]; exact hW
  clear hd h1 h2 hLb hG hbW hW hW0 hb0 hs0 hLb0 x1
  go_enter Tryz.func21, Tryz.ntmps21
  go_wp2
  clear hmk x0 c4
  go_loopw [18] (fun i wr => ∃ (k : Nat) (A3 : List Int), k ≤ es.length ∧ i = .int .i64 (k : Int) ∧ IntsBlk wr (w.heap.size + 1) A3 ∧ A3.length = es.length ∧ (∀ j, j < k → A3[j]? = some (Lo.nest es s j)) ∧ wr.heap[w.heap.size]? = some (.cells #[.slice (some ⟨g1, 0, none⟩) es.length es.length, .slice (some ⟨g2, 0, none⟩) es.length es.length, .slice none 0 0, .slice none 0 0] 31 (0, 0)) ∧ Below w.heap.size w wr) (fun i _ => es.length - (intOf i).toNat)
  case atStart =>
    rw [← HW.out]
    exact ⟨0, _, Nat.zero_le _, rfl, HG.out, by simp, (fun j hj => by omega), HLb.out, HBW.out⟩
  case round =>
    obtain ⟨k, A3, hk, rfl, hA, hAl, hAj, hlb, hb⟩ := hrel
    by_cases hlt : k < es.length
    · have hdw := HD.out.later hb
      obtain ⟨b4, o4, e4, d4⟩ := hdw.ori hlt
      have d4k := d4 wr (Below.refl _ _) k hlt
      obtain ⟨ho1, ho2, ho3, ho4⟩ := Lo.oh_of HD.out.vf hlt
      rw [ho1] at d4k
      obtain ⟨q1, q2⟩ := HI.out wr hb
      have r1 := q1.cell (upTo_at (f := Lo.low es s) hlt)
      obtain ⟨x0, x1, -, -, -⟩ := four_cells hlb
      have hrng := Lo.low_rng HD.out.val HD.out.vf hlt
      obtain ⟨lo, hlo⟩ : ∃ lo, Lo.low es s k = lo := ⟨_, rfl⟩
      obtain ⟨l2, hl2⟩ : ∃ l2, Lo.low2 es s k = l2 := ⟨_, rfl⟩
      obtain ⟨hf, hhf⟩ : ∃ hf, Lo.hf es s k = hf := ⟨_, rfl⟩
      obtain ⟨hh, hhe⟩ : ∃ hh, Lo.oh s k = hh := ⟨_, rfl⟩
      have HNE : Hid (Lo.nest es s k = if lo < l2 ∧ l2 < hf then 2 * lo + 1 else 2 * lo) := by
        show _ = _
        unfold Lo.nest
        rw [hlo, hl2, hhf]
      rw [hlo, hl2, hhf] at hrng
      rw [hlo] at r1
      rw [hhe] at d4k ho3
      obtain ⟨a3, ha3⟩ : ∃ z, A3[k]? = some z := ⟨_, List.getElem?_eq_getElem (by omega)⟩
      have y1 := hA.cell ha3
      have y2 := hA.free k
      have hw1b : Below w.heap.size w (wr.setCell ⟨w.heap.size + 1, k, none⟩ (.int .i64 (2 * lo))) := hb.setCell (p := ⟨w.heap.size + 1, k, none⟩) (by simp) _
      obtain ⟨w1, hw1⟩ : ∃ w1, w1 = wr.setCell ⟨w.heap.size + 1, k, none⟩ (.int .i64 (2 * lo)) := ⟨_, rfl⟩
      have hA1 : IntsBlk w1 (w.heap.size + 1) (A3.set k (2 * lo)) := by rw [hw1]; exact hA.set k _
      have hlb1 : w1.heap[w.heap.size]? = some (.cells #[.slice (some ⟨g1, 0, none⟩) es.length es.length, .slice (some ⟨g2, 0, none⟩) es.length es.length, .slice none 0 0, .slice none 0 0] 31 (0, 0)) := by rw [hw1, heap_setCell_other _ _ _ _ (by show w.heap.size ≠ w.heap.size + 1; omega)]; exact hlb
      rw [← hw1] at hw1b
      have HW1 := Nu.hid hw1
      have HB1 := Nu.hid hw1b
      have HA1 := Nu.hid hA1
      have HLB1 := Nu.hid hlb1
      have hda := HD.out.later hw1b
      have HBG : Hid (∀ D : LW w1, Calls Tryz.prog 37 #[.pointer (some ⟨p, 0, none⟩), .int .i64 (hh : Int)] D.val fun e w' => e = .returned (.int .i64 hf) ∧ Below D.val.heap.size D.val w') := fun D => by
        have := begins_any hh ho3 (hda.later D.h)
        rw [← hhe] at this
        rw [← hhf, ← hhe]
        exact this
      have s0 : ∀ D : LW w1, D.val.cell? ⟨w.heap.size, 0, none⟩ = some (.slice (some ⟨g1, 0, none⟩) es.length es.length) := fun D => (four_cells ((D.h.block _ (lt_of_block hlb1)).trans hlb1)).1
      have s1 : ∀ D : LW w1, D.val.cell? ⟨w.heap.size, 1, none⟩ = some (.slice (some ⟨g2, 0, none⟩) es.length es.length) := fun D => (four_cells ((D.h.block _ (lt_of_block hlb1)).trans hlb1)).2.1
      have t1 : ∀ D : LW w1, D.val.cell? ⟨g1, k, none⟩ = some (.int .i64 lo) := fun D => by
        have := (HI.out D.val (hw1b.trans (D.h.mono hw1b.size))).1.cell (upTo_at (f := Lo.low es s) hlt)
        rwa [hlo] at this
      have t2 : ∀ D : LW w1, D.val.cell? ⟨g2, k, none⟩ = some (.int .i64 l2) := fun D => by
        have := (HI.out D.val (hw1b.trans (D.h.mono hw1b.size))).2.cell (upTo_at (f := Lo.low2 es s) hlt)
        rwa [hl2] at this
      have hne := LW.any w1
      have HAL := Nu.hid hAl
      have HAJ := Nu.hid hAj
      have k0 : (0 : Int) ≤ (k : Int) := by omega
      have k1 : (k : Int) < (es.length : Int) := by omega
      have e40 : f.a4 = some ⟨b4, o4, none⟩ := e4
      rw [e40]
      clear hA hAl hAj hlb hb hdw d4 q1 q2 hlo hl2 hhf hhe ho1 ho2 ho4 ha3 hw1 hw1b hA1 hlb1 hda e4 e40
      go_wp2
      rw [← HW1.out]
      by_cases c1 : lo < l2
      · by_cases c2 : l2 < hf
        · refine wp_region_lw (by kernel_rfl) (by kernel_rfl) ?_
          repeat (go_big_quiet_step ((first | (go_at_call 37; exact Calls.lw (HBG.out _)))))
          refine wpQuiet_nil ?_
          rintro _ ⟨D, rfl⟩
          have hD1 := HA1.out.later D.h
          have HDA := Nu.hid hD1
          have HDL := Nu.hid ((D.h.block _ (lt_of_block HLB1.out)).trans HLB1.out)
          have HDB := Nu.hid (HB1.out.trans (D.h.mono HB1.out.size))
          have z1 := hD1.cell (i := k) (x := 2 * lo) (by rw [List.getElem?_set, if_pos rfl, if_pos (by have := HAL.out; omega)])
          have z2 := hD1.free k
          clear hD1
          go_wp2
          go_roundw
          case rel =>
            refine ⟨k + 1, _, by omega, by go_num, HDA.out.set k _, by simpa using HAL.out, fun j hj => ?_, ?_, HDB.out.setCell (p := ⟨w.heap.size + 1, k, none⟩) (by simp) _⟩
            · rw [List.getElem?_set]
              by_cases e : k = j
              · subst e
                rw [if_pos rfl, if_pos (by have := HAL.out; simp; omega), HNE.out, if_pos ⟨c1, c2⟩]
              · rw [if_neg e, List.getElem?_set, if_neg e]
                exact HAJ.out j (by omega)
            · rw [heap_setCell_other _ _ _ _ (by show w.heap.size ≠ w.heap.size + 1; omega)]
              exact HDL.out
          case measure => simp [intOf]; omega
        · refine wp_region_lw (by kernel_rfl) (by kernel_rfl) ?_
          repeat (go_big_quiet_step ((first | (go_at_call 37; exact Calls.lw (HBG.out _)))))
          refine wpQuiet_nil ?_
          rintro _ ⟨D, rfl⟩
          have hD1 := HA1.out.later D.h
          have HDA := Nu.hid hD1
          have HDL := Nu.hid ((D.h.block _ (lt_of_block HLB1.out)).trans HLB1.out)
          have HDB := Nu.hid (HB1.out.trans (D.h.mono HB1.out.size))
          clear hD1
          go_wp2
          go_roundw
          case rel =>
            refine ⟨k + 1, _, by omega, by go_num, HDA.out, by simpa using HAL.out, fun j hj => ?_, HDL.out, HDB.out⟩
            rw [List.getElem?_set]
            by_cases e : k = j
            · subst e
              rw [if_pos rfl, if_pos (by have := HAL.out; omega), HNE.out, if_neg (by omega)]
            · rw [if_neg e]
              exact HAJ.out j (by omega)
          case measure => simp [intOf]; omega
      · refine wp_region_lw (by kernel_rfl) (by kernel_rfl) ?_
        repeat (go_big_quiet_step ((first | (go_at_call 37; exact Calls.lw (HBG.out _)))))
        refine wpQuiet_nil ?_
        rintro _ ⟨D, rfl⟩
        have hD1 := HA1.out.later D.h
        have HDA := Nu.hid hD1
        have HDL := Nu.hid ((D.h.block _ (lt_of_block HLB1.out)).trans HLB1.out)
        have HDB := Nu.hid (HB1.out.trans (D.h.mono HB1.out.size))
        clear hD1
        go_wp2
        go_roundw
        case rel =>
          refine ⟨k + 1, _, by omega, by go_num, HDA.out, by simpa using HAL.out, fun j hj => ?_, HDL.out, HDB.out⟩
          rw [List.getElem?_set]
          by_cases e : k = j
          · subst e
            rw [if_pos rfl, if_pos (by have := HAL.out; omega), HNE.out, if_neg (by omega)]
          · rw [if_neg e]
            exact HAJ.out j (by omega)
        case measure => simp [intOf]; omega
    · have hd : ¬ ((k : Int) < (es.length : Int)) := by omega
      have hke : k = es.length := by omega
      have HA := Nu.hid hA
      have HB := Nu.hid hb
      have HE : Hid (A3 = upTo (Lo.nest es s) es.length) := by
        show _ = _
        refine List.ext_getElem? fun j => ?_
        by_cases hj : j < es.length
        · rw [upTo_at hj]
          exact hAj j (by omega)
        · rw [List.getElem?_eq_none (by omega), List.getElem?_eq_none (by rw [upTo_len]; omega)]
      clear hA hAl hAj hlb hb
      go_wp2
      go_ret
      exact ⟨_, rfl, by rw [← HE.out]; exact HA.out, by omega, HB.out⟩
end

end Go.Proofs.YtmgoahbloppdmaaGreat

/-
  The lists of Out, pure: what stands where, in which order (P8.4).
-/
namespace Go.Proofs.YtmgoahbloppdmaaGreat
namespace Lo
open Df
section
variable {n : Nat} {es : List (Int × Int)} {s : St}

/-- What stands at v when k edges have been put: their half-edges that begin there. -/
theorem outTo_mem (hv : Si.Val n es) (hVF : VF n es s) : ∀ k, k ≤ es.length → ∀ (v : Nat) (L : List Int), (outTo n es s k)[v]? = some L → ∀ x, x ∈ L ↔ ∃ b, b < k ∧ fr es s b = v ∧ x = at_ s.ori b
  | 0, _, v, L, hL, x => by
    unfold outTo at hL
    rw [List.getElem?_replicate] at hL
    split at hL
    · cases hL
      simp
    · cases hL
  | k + 1, hk, v, L, hL, x => by
    have ih := outTo_mem hv hVF k (by omega)
    have hlt : fr es s k < (outTo n es s k).length := by rw [outTo_len]; exact (ends_lt hv hVF (by omega)).1
    unfold outTo at hL
    rw [List.getElem?_set] at hL
    by_cases e : fr es s k = v
    · rw [if_pos e, if_pos hlt] at hL
      have hL' := Option.some.inj hL
      rw [← hL', put_mem]
      have hget : (outTo n es s k)[fr es s k]? = some ((outTo n es s k).getD (fr es s k) []) := by
        rw [List.getD_eq_getElem?_getD, List.getElem?_eq_getElem hlt]
        rfl
      rw [ih (fr es s k) _ hget x]
      constructor
      · rintro (h1 | ⟨b, h1, h2, h3⟩)
        · exact ⟨k, by omega, e, h1⟩
        · exact ⟨b, by omega, by rw [h2, e], h3⟩
      · rintro ⟨b, h1, h2, h3⟩
        by_cases eb : b = k
        · exact .inl (by rw [h3, eb])
        · exact .inr ⟨b, by omega, by rw [h2, e], h3⟩
    · rw [if_neg e] at hL
      rw [ih v L hL x]
      constructor
      · rintro ⟨b, h1, h2, h3⟩
        exact ⟨b, by omega, h2, h3⟩
      · rintro ⟨b, h1, h2, h3⟩
        refine ⟨b, ?_, h2, h3⟩
        have : b ≠ k := fun eb => e (by rw [← eb]; exact h2)
        omega

/-- Ahead by nesting depth, then by the half-edge's number. -/
def Le8 (es : List (Int × Int)) (s : St) (x y : Int) : Prop := nest es s (x.toNat / 2) < nest es s (y.toNat / 2) ∨ (nest es s (x.toNat / 2) = nest es s (y.toNat / 2) ∧ x < y)

theorem ori_half (hVF : VF n es s) {b : Nat} (hb : b < es.length) : (at_ s.ori b).toNat / 2 = b ∧ 0 ≤ at_ s.ori b ∧ at_ s.ori b < 2 * (es.length : Int) := by
  obtain ⟨h1, h2, h3, h4⟩ := oh_of hVF hb
  rw [h1, Int.toNat_natCast]
  exact ⟨h4, by omega, by omega⟩

/-- Each list rises. -/
theorem outTo_rises (hv : Si.Val n es) (hVF : VF n es s) : ∀ k, k ≤ es.length → ∀ L ∈ outTo n es s k, List.Pairwise (Le8 es s) L
  | 0, _, L, hL => by
    unfold outTo at hL
    rw [List.mem_replicate] at hL
    rw [hL.2]
    exact List.Pairwise.nil
  | k + 1, hk, L, hL => by
    have ih := outTo_rises hv hVF k (by omega)
    unfold outTo at hL
    rcases List.mem_or_eq_of_mem_set hL with h1 | h1
    · exact ih L h1
    · have hlt : fr es s k < (outTo n es s k).length := by rw [outTo_len]; exact (ends_lt hv hVF (by omega)).1
      have hmem : (outTo n es s k).getD (fr es s k) [] ∈ outTo n es s k := by
        rw [List.getD_eq_getElem?_getD, List.getElem?_eq_getElem hlt]
        exact List.getElem_mem hlt
      have hp := ih _ hmem
      have hh := (outTo_half hv hVF k (by omega) _ hmem).1
      obtain ⟨M, hM⟩ : ∃ M, (outTo n es s k).getD (fr es s k) [] = M := ⟨_, rfl⟩
      rw [hM] at hp hh h1
      rw [h1]
      obtain ⟨p, hpd⟩ : ∃ p, (fun x : Int => decide (nest es s k < nest es s (x.toNat / 2))) = p := ⟨_, rfl⟩
      rw [hpd]
      have hpx : ∀ x, p x = true ↔ nest es s k < nest es s (x.toNat / 2) := fun x => by rw [← hpd]; simp
      have hfs := fst_snd p M
      have hp2 := hp
      rw [← hfs, List.pairwise_append] at hp2
      obtain ⟨p1, p2, p3⟩ := hp2
      obtain ⟨k1, k2, _⟩ := ori_half hVF (show k < es.length by omega)
      obtain ⟨o1, o2, _, _⟩ := oh_of hVF (show k < es.length by omega)
      have hlow : ∀ x ∈ M, x < at_ s.ori k := fun x hx => by
        obtain ⟨b, hb, e⟩ := hh x hx
        obtain ⟨q1, q2, _, _⟩ := oh_of hVF (show b < es.length by omega)
        rw [e, q1, o1]
        omega
      have hsnd : ∀ y ∈ snd p M, nest es s k < nest es s (y.toNat / 2) := fun y hy => by
        cases hs : snd p M with
        | nil => rw [hs] at hy; simp at hy
        | cons z D =>
          have hz := (hpx z).1 (snd_yes p M z D hs)
          rw [hs] at hy p2
          rcases List.mem_cons.1 hy with rfl | hy
          · exact hz
          · rcases (List.pairwise_cons.1 p2).1 y hy with h | ⟨h, _⟩
            · omega
            · omega
      unfold put
      rw [List.pairwise_append]
      refine ⟨p1, List.pairwise_cons.2 ⟨fun y hy => .inl (by rw [k1]; exact hsnd y hy), p2⟩, fun x hx y hy => ?_⟩
      have hxn : ¬ nest es s k < nest es s (x.toNat / 2) := fun h => by
        have := (hpx x).2 h
        rw [fst_no p M x hx] at this
        cases this
      rcases List.mem_cons.1 hy with rfl | hy
      · have hxM : x ∈ M := by rw [← hfs]; exact List.mem_append_left _ hx
        have hlt2 := hlow x hxM
        by_cases heq : nest es s (x.toNat / 2) = nest es s k
        · exact .inr ⟨by rw [k1]; exact heq, hlt2⟩
        · exact .inl (by rw [k1]; omega)
      · exact p3 x hx y hy

theorem le8_irrefl {x : Int} : ¬ Le8 es s x x := by
  rintro (h | ⟨_, h⟩) <;> omega
theorem outTo_nodup (hv : Si.Val n es) (hVF : VF n es s) (k : Nat) (hk : k ≤ es.length) : ∀ L ∈ outTo n es s k, L.Nodup := fun L hL => by
  refine List.Pairwise.imp ?_ (outTo_rises hv hVF k hk L hL)
  intro a b h e
  subst e
  exact le8_irrefl h

/-- By tree edges every vertex is reached from a root: what holds at the roots and goes on along tree edges holds everywhere. -/
theorem from_roots (hVF : VF n es s) (P : Nat → Prop) (h0 : ∀ v, v < n → at_ s.par v = -1 → P v) (h1 : ∀ k, k < es.length → tree es s k = true → P (fr es s k) → P (go_ es s k)) : ∀ v, v < n → P v := by
  obtain ⟨⟨W, B⟩, hs'⟩ := hVF.side
  have main : ∀ (Y : List Int) (v : Nat), v < n → IsWay es s ((v : Int) :: Y) → P v := by
    intro Y
    induction Y with
    | nil =>
      intro v hv hw
      rcases hVF.hang v hv with ⟨h, _⟩ | ⟨y, h2, h3, _⟩
      · exact h0 v hv h
      · have := hw.2.1
        unfold Df.up at this
        rw [Int.toNat_natCast, h3, Cs.frI_in h2] at this
        simp at this
    | cons y Y ih =>
      intro v hv hw
      rcases hVF.hang v hv with ⟨h, _⟩ | ⟨z, h2, h3, h4, h5, _⟩
      · exact h0 v hv h
      · have hup := hw.2.1
        unfold Df.up at hup
        rw [Int.toNat_natCast, h3, Cs.frI_in h2] at hup
        have hy : y = (Cs.fr es z : Int) := by simpa using hup.symm
        have hoh : oh s (z / 2) = z := by unfold oh; rw [h5]; simp
        have hgo : go_ es s (z / 2) = v := by unfold go_; rw [hoh]; exact h4
        have hfr : fr es s (z / 2) = Cs.fr es z := by unfold fr; rw [hoh]
        have hk : z / 2 < es.length := by omega
        rw [← hgo]
        refine h1 (z / 2) hk ?_ ?_
        · rw [tree_iff hVF hk, hgo, hoh]
          exact h3
        · rw [hfr]
          have hw2 := hw.2.2
          rw [hy] at hw2
          obtain ⟨Y', hw', _, hr⟩ := way_of (es := es) hVF.once hs' hv
          have heq := IsWay.unique hw hw' rfl
          have hym : y ∈ Y' := by
            injection heq with _ h6
            rw [← h6]
            exact List.mem_cons_self
          obtain ⟨u, hu, hu2⟩ := hr y hym
          have hfn : Cs.fr es z < n := by
            have : (Cs.fr es z : Int) = (u : Int) := by rw [← hy, hu2]
            omega
          exact ih (Cs.fr es z) hfn hw2
  intro v hv
  obtain ⟨Y, hw, _, _⟩ := way_of (es := es) hVF.once hs' hv
  exact main Y v hv hw
end
end Lo
end Go.Proofs.YtmgoahbloppdmaaGreat
