/-
  The law LowWalk, of a valid graph.
-/
import Derived.Test.YtmgoahbloppdmaaMg31
import Derived.Test.YtmgoahbloppdmaaMg19
import Derived.Deep.CutRange
namespace Go.Proofs.Ytmgoahbloppdmaa
open Go.ChangeShapes Go.WideShapes Go.ChangeAt Go.RowKit
namespace lawLWalk

set_option maxRecDepth 100000 in
set_option maxHeartbeats 16000000 in
theorem yes (m : Nat) (ao : Option Addr) (ca : Nat) (es : List (Int × Int)) (w : World) (hat : EdgesAt w ao es) (hv : Si.Val m es) :
    Calls Try.prog 3 #[.agg #[.int .i64 (m : Int), .slice ao es.length ca]] w fun e w' => e = .returned (.bool true) ∧ Below w.heap.size w w' := by
  obtain ⟨W, hW⟩ : ∃ W, W = w.alloc (.cells #[.int .i64 (m : Int), .slice ao es.length ca] 24) := ⟨_, rfl⟩
  have hB0 : Below w.heap.size w W := by rw [hW]; exact (Below.refl _ _).alloc (Nat.le_refl _) _
  have g1 : W.heap[w.heap.size]? = some (.cells #[.int .i64 (m : Int), .slice ao es.length ca] 24 (0, 0)) := by rw [hW]; exact heap_alloc_new w _
  have lt1 := lt_of_block g1
  have hatW := hat.later hB0
  have hfew := hv.few
  have hhi := hv.hi
  have HBOX : Hid (∀ V, Below W.heap.size W V → V.cell? ⟨w.heap.size, 0, none⟩ = some (.int .i64 (m : Int)) ∧ V.cell? ⟨w.heap.size, 1, none⟩ = some (.slice ao es.length ca)) := fun V hV => by
    obtain ⟨x0, x1, -⟩ := pair_cells ((hV.block w.heap.size lt1).trans g1)
    exact ⟨x0, x1⟩
  have HFX := Nu.hid (fixed8_any W)
  have HWK : Hid (∀ V, Below W.heap.size W V → _) := fun V hV => walk_yes (ca := ca) hv (hatW.later hV) (by omega)
  have HAT : Hid (∀ V, Below W.heap.size W V → EdgesAt V ao es) := fun V hV => hatW.later hV
  have HV := Nu.hid hv
  have HWW := Nu.hid hW
  have HB0 := Nu.hid hB0
  clear hB0 g1 hW hat hatW hv
  go_enter Try.func3, Try.ntmps3
  go_wp2_with (go_at_call 6; rw [← HWW.out]; refine HFX.out.mono ?_; rintro e w1 ⟨rfl, hb1⟩; have HB1 := Nu.hid hb1; have hs1 := hb1.size; obtain ⟨x0, x1⟩ := HBOX.out _ hb1; clear hb1; refine Hid.out ?_)
  refine Nu.hid ?_
  go_wp2_with (go_at_call 7; refine (HWK.out _ HB1.out).mono ?_; rintro e w2 ⟨a1, a2, a3, a4, c1, c2, c3, c4, s, rfl, hF, hVF, hroom, hb2⟩; refine Hid.out ?_)
  refine Nu.hid ?_
  have hB2 : Below W.heap.size W w2 := HB1.out.trans (hb2.mono HB1.out.size)
  obtain ⟨w3, hw3⟩ : ∃ w3, w3 = w2.alloc (.cells #[.slice a1 m c1, .slice a2 m c2, .slice a3 m c3, .slice a4 es.length c4] 28) := ⟨_, rfl⟩
  have hb3 : Below w2.heap.size w2 w3 := by rw [hw3]; exact (Below.refl _ _).alloc (Nat.le_refl _) _
  have hs3 : w3.heap.size = w2.heap.size + 1 := by rw [hw3]; simp
  have hB3 : Below W.heap.size W w3 := hB2.trans (hb3.mono hB2.size)
  have hs2 := hB2.size
  have lb3 : w3.heap[w2.heap.size]? = some (.cells #[.slice a1 m c1, .slice a2 m c2, .slice a3 m c3, .slice a4 es.length c4] 28 (0, 0)) := by rw [hw3]; exact heap_alloc_new w2 _
  obtain ⟨y0, y1, y2, y3, -⟩ := four_cells lb3
  obtain ⟨x0, x1⟩ := HBOX.out _ hB3
  have HO3 := Nu.hid (of_yes (ca := ca) HV.out hVF (HAT.out w3 hB3) (hF.later hb3))
  have HB3 := Nu.hid hB3
  have HW3 := Nu.hid hw3
  have HF3 := Nu.hid (hF.later hb3)
  have HVF := Nu.hid hVF
  have HRM := Nu.hid hroom
  have HL3 := Nu.hid lb3
  rw [hw3] at x0 x1 y0 y1 y2 y3
  clear hb3 hb2 hB2 hB3 hF lb3 hw3 HWK hVF hroom
  go_wp2_with (go_at_call 8; rw [← HW3.out]; refine HO3.out.mono ?_; rintro e w4 ⟨b1, b2, b3, b4, d1, d2, d3, d4, vs, rfl, k1, k2, k3, k4, hb4⟩; refine Hid.out ?_)
  refine Nu.hid ?_
  obtain ⟨w5, hw5⟩ : ∃ w5, w5 = w4.alloc (.cells #[.slice b1 es.length d1, .slice b2 es.length d2, .slice b3 es.length d3, .slice b4 m d4] 34) := ⟨_, rfl⟩
  have hb5 : Below w4.heap.size w4 w5 := by rw [hw5]; exact (Below.refl _ _).alloc (Nat.le_refl _) _
  have hs5 : w5.heap.size = w4.heap.size + 1 := by rw [hw5]; simp
  have hs4 := hb4.size
  have lb5 : w5.heap[w4.heap.size]? = some (.cells #[.slice b1 es.length d1, .slice b2 es.length d2, .slice b3 es.length d3, .slice b4 m d4] 34 (0, 0)) := by rw [hw5]; exact heap_alloc_new w4 _
  have HH : Hid (∀ V, Below w5.heap.size w5 V → Held w W w2.heap.size w4.heap.size m ao ca es a1 a2 a3 a4 c1 c2 c3 c4 s b1 b2 b3 b4 d1 d2 d3 d4 V) := fun V hV => by
    have h45 := hb5.trans (hV.mono hb5.size)
    have h35 := hb4.trans (h45.mono hb4.size)
    have hW5 := HB3.out.trans (h35.mono HB3.out.size)
    obtain ⟨x0, x1⟩ := HBOX.out V hW5
    obtain ⟨y0, y1, y2, y3, -⟩ := four_cells ((h35.block _ (lt_of_block HL3.out)).trans HL3.out)
    obtain ⟨z0, z1, z2, z3, -⟩ := four_cells ((hV.block _ (lt_of_block lb5)).trans lb5)
    have := hV.size
    exact ⟨x0, x1, y0, y1, y2, y3, z0, z1, z2, z3, ⟨by omega, by omega, by omega⟩, HAT.out V hW5, HF3.out.later h35, k1.later h45, k2.later h45, k3.later h45, HB0.out.trans (hW5.mono HB0.out.size)⟩
  have HEN : Hid (∀ V (k : Nat), Below w5.heap.size w5 V → k < es.length → Calls Try.prog 9 #[.agg #[.int .i64 (m : Int), .slice ao es.length ca], .agg #[.slice a1 m c1, .slice a2 m c2, .slice a3 m c3, .slice a4 es.length c4], .int .i64 (k : Int)] V fun r w' => r = .returned (.tuple #[.int .i64 (Lo.fr es s k : Int), .int .i64 (Lo.go_ es s k : Int)]) ∧ Below V.heap.size V w') := fun V k hV hk => ends_yes k hk HV.out HVF.out (HH.out V hV).edges (HH.out V hV).lf
  have HRT : Hid (∀ V (k : Nat), Below w5.heap.size w5 V → k < es.length → Calls Try.prog 10 #[.agg #[.int .i64 (m : Int), .slice ao es.length ca], .agg #[.slice a1 m c1, .slice a2 m c2, .slice a3 m c3, .slice a4 es.length c4], .int .i64 (k : Int)] V fun e w' => ∃ b d, e = .returned (.tuple #[.slice b (Lo.rets es s k).length d, .int .i64 0]) ∧ Below V.heap.size V w') := fun V k hV hk => ret_yes k hk HV.out HVF.out (HH.out V hV).edges (HH.out V hV).lf HRM.out
  obtain ⟨x0, x1, y0, y1, y2, y3, z0, z1, z2, z3, -, -, -, -, -, -, -⟩ := HH.out w5 (Below.refl _ _)
  have HW5 := Nu.hid hw5
  rw [hw5] at x0 x1 y0 y1 y2 y3 z0 z1 z2 z3
  have j1 : ((es.length : Int) != (es.length : Int)) = false := by simp
  clear hb4 hb5 lb5 hw5 k1 k2 k3 k4 HB3 HW3 HF3 HL3 HO3 HBOX HAT
  by_cases h300 : 300 < es.length
  · have h300' : (300 : Int) < (es.length : Int) := by omega
    go_wp2
    go_ret
    rw [← HW5.out]
    exact ⟨rfl, (HH.out w5 (Below.refl _ _)).bel⟩
  have h300' : ¬ (300 : Int) < (es.length : Int) := by omega
  go_wp2
  rw [← HW5.out]
  clear h300 h300' j1 x0 x1 y0 y1 y2 y3 z0 z1 z2 z3
  go_loopw [81] (fun cv wr => ∃ k : Nat, k ≤ es.length ∧ cv = .int .i64 (k : Int) ∧ Below w5.heap.size w5 wr) (fun cv _ => es.length - (intOf cv).toNat)
  case atStart => exact ⟨0, Nat.zero_le _, rfl, Below.refl _ _⟩
  case round =>
    obtain ⟨k, hk, rfl, hb⟩ := hrel
    have HB := Nu.hid hb
    have hsr := hb.size
    by_cases hlt : k < es.length
    · have hlti : (k : Int) < (es.length : Int) := by omega
      have hk0 : (0 : Int) ≤ (k : Int) := by omega
      obtain ⟨vlt, tlt⟩ := Lo.ends_lt HV.out HVF.out hlt
      obtain ⟨lens1, lens2, lens3, lens4⟩ := HVF.out.lens
      have hv0 : (0 : Int) ≤ (Lo.fr es s k : Int) := by omega
      have hv1 : (Lo.fr es s k : Int) < (m : Int) := by omega
      have ht0 : (0 : Int) ≤ (Lo.go_ es s k : Int) := by omega
      have ht1 : (Lo.go_ es s k : Int) < (m : Int) := by omega
      have hroot := Df.rooted_of HV.out HVF.out.once HVF.out.hang HVF.out.side
      have hr1 := hroot _ vlt
      have hr2 := hroot _ tlt
      obtain ⟨gh, oh, eh, ch⟩ := lst_at (HH.out wr hb).lf.l2 (i := Lo.fr es s k) (by omega)
      obtain ⟨gt, ot, et, ct⟩ := lst_at (HH.out wr hb).lf.l2 (i := Lo.go_ es s k) (by omega)
      obtain ⟨gp, op, ep, cp⟩ := lst_at (HH.out wr hb).lf.l1 (i := Lo.go_ es s k) (by omega)
      obtain ⟨gr, or, er, cr⟩ := lst_at (HH.out wr hb).lf.l4 (i := k) (by omega)
      obtain ⟨g1, o1, e1, q1⟩ := up_at (HH.out wr hb).l1 hlt
      obtain ⟨g2, o2, e2, q2⟩ := up_at (HH.out wr hb).l2 hlt
      obtain ⟨g3, o3, e3, q3⟩ := up_at (HH.out wr hb).l3 hlt
      have eht := eh.symm.trans et
      cases eht
      dsimp only at eh ep er
      subst eh ep er e1 e2 e3
      have HCL : Hid (∀ V, Below wr.heap.size wr V → V.cell? ⟨gh, oh + Lo.fr es s k, none⟩ = some (.int .i64 (Lo.hf es s k)) ∧ V.cell? ⟨gh, oh + Lo.go_ es s k, none⟩ = some (.int .i64 (Lo.ht es s k)) ∧ V.cell? ⟨gp, op + Lo.go_ es s k, none⟩ = some (.int .i64 (Df.at_ s.par (Lo.go_ es s k))) ∧ V.cell? ⟨gr, or + k, none⟩ = some (.int .i64 (Df.at_ s.ori k)) ∧ V.cell? ⟨g1, o1 + k, none⟩ = some (.int .i64 (Lo.low es s k)) ∧ V.cell? ⟨g2, o2 + k, none⟩ = some (.int .i64 (Lo.low2 es s k)) ∧ V.cell? ⟨g3, o3 + k, none⟩ = some (.int .i64 (Lo.nest es s k))) := fun V hV =>
        ⟨(hV.cell (p := ⟨gh, oh + Lo.fr es s k, none⟩) (block_lt_of_cell ch)).trans ch, (hV.cell (p := ⟨gh, oh + Lo.go_ es s k, none⟩) (block_lt_of_cell ct)).trans ct, (hV.cell (p := ⟨gp, op + Lo.go_ es s k, none⟩) (block_lt_of_cell cp)).trans cp, (hV.cell (p := ⟨gr, or + k, none⟩) (block_lt_of_cell cr)).trans cr, (hV.cell (p := ⟨g1, o1 + k, none⟩) (block_lt_of_cell q1)).trans q1, (hV.cell (p := ⟨g2, o2 + k, none⟩) (block_lt_of_cell q2)).trans q2, (hV.cell (p := ⟨g3, o3 + k, none⟩) (block_lt_of_cell q3)).trans q3⟩
      have F1 := Lo.low_nonneg HV.out HVF.out hlt
      have F2 := Lo.low_le es s k
      have F3 : Lo.hf es s k < (m : Int) := hr1.2.1
      have F4 : (Lo.low es s k = Lo.low2 es s k) ↔ (Lo.rets es s k).length = 0 := by
        rw [Lo.low_eq_iff HV.out HVF.out hlt, List.length_eq_zero_iff]
      have F5 : 0 ≤ Lo.ht es s k := hr2.1
      have F6 : Lo.ht es s k < (m : Int) := hr2.2.1
      have F7 : Lo.tree es s k = false → Lo.low es s k = Lo.ht es s k ∧ Lo.ht es s k < Lo.hf es s k := fun h => ⟨Lo.low_back HV.out HVF.out hlt h, Lo.back_up HV.out HVF.out hlt h⟩
      have F8 : Lo.tree es s k = true → Lo.low es s k = Lo.least (Lo.hf es s k) (((List.range es.length).filter fun j => decide (Lo.fr es s j = Lo.go_ es s k)).map (Lo.low es s)) := fun h => Lo.low_tree HV.out HVF.out hlt h
      have F9 : Lo.nest es s k = if Lo.low es s k < Lo.low2 es s k ∧ Lo.low2 es s k < Lo.hf es s k then 2 * Lo.low es s k + 1 else 2 * Lo.low es s k := rfl
      have F10 : Lo.tree es s k = decide (Df.at_ s.par (Lo.go_ es s k) = Df.at_ s.ori k) := rfl
      obtain ⟨x0, x1, y0, y1, y2, y3, z0, z1, z2, z3, hbl, -, -, -, -, -, -⟩ := HH.out wr hb
      have HEk := Nu.hid (HEN.out wr k hb hlt)
      have HLT := Nu.hid hlt
      have HG : Hid (Lo.go_ es s k < m) := tlt
      clear hb ch ct cp cr q1 q2 q3 hroot hr1 hr2 lens1 lens2 lens3 lens4 et vlt tlt
      obtain ⟨vv, hvv⟩ : ∃ vv, Lo.fr es s k = vv := ⟨_, rfl⟩
      obtain ⟨tt, htt⟩ : ∃ tt, Lo.go_ es s k = tt := ⟨_, rfl⟩
      obtain ⟨lw, hlw⟩ : ∃ x, Lo.low es s k = x := ⟨_, rfl⟩
      obtain ⟨l2, hl2⟩ : ∃ x, Lo.low2 es s k = x := ⟨_, rfl⟩
      obtain ⟨hh, hhh⟩ : ∃ x, Lo.hf es s k = x := ⟨_, rfl⟩
      obtain ⟨th, hth⟩ : ∃ x, Lo.ht es s k = x := ⟨_, rfl⟩
      obtain ⟨ns, hns⟩ : ∃ x, Lo.nest es s k = x := ⟨_, rfl⟩
      obtain ⟨pp, hpp⟩ : ∃ x, Df.at_ s.par (Lo.go_ es s k) = x := ⟨_, rfl⟩
      obtain ⟨rr, hrr⟩ : ∃ x, Df.at_ s.ori k = x := ⟨_, rfl⟩
      obtain ⟨re, hre⟩ : ∃ x, (Lo.rets es s k).length = x := ⟨_, rfl⟩
      obtain ⟨tb, htb⟩ : ∃ x, Lo.tree es s k = x := ⟨_, rfl⟩
      have HRk : Hid (∀ V, Below w5.heap.size w5 V → _) := fun V hV => HRT.out V k hV HLT.out
      rw [hpp, hvv, htt, hlw, hl2, hhh, hth, hns, hrr] at HCL
      rw [hlw, hl2] at F2 F4
      rw [hlw] at F1 
      rw [hhh] at F2 F3
      rw [hre] at F4 HRk
      rw [hth] at F5 F6
      rw [hlw, hth, hhh, htb] at F7
      rw [hlw, hhh, htt, htb] at F8
      rw [hns, hlw, hl2, hhh] at F9
      rw [hpp, hrr, htb] at F10
      rw [hvv, htt] at HEk
      rw [htt] at HG
      rw [hvv] at hv0 hv1
      rw [htt] at ht0 ht1
      have H4 := Nu.hid F4
      have H7 := Nu.hid F7
      have H8 := Nu.hid F8
      have H9 := Nu.hid F9
      have H10 := Nu.hid F10
      clear hvv hlw hl2 hhh hth hns hpp hrr hre htb htt F4 F7 F8 F9 F10
      go_wp2_with (go_at_call 9; refine HEk.out.mono ?_; rintro e w6 ⟨rfl, hb6⟩; refine Hid.out ?_)
      refine Nu.hid ?_
      have hB6 : Below w5.heap.size w5 w6 := HB.out.trans (hb6.mono HB.out.size)
      have hs6 := hb6.size
      obtain ⟨x0, x1, y0, y1, y2, y3, z0, z1, z2, z3, -, -, -, -, -, -, -⟩ := HH.out w6 hB6
      obtain ⟨p1, p2, p3, p4, p5, p6, p7⟩ := HCL.out w6 hb6
      have HR6 := Nu.hid (HRk.out w6 hB6)
      have HB6 := Nu.hid hB6
      have HBR6 := Nu.hid hb6
      clear hb6 hB6
      go_wp2_with (go_at_call 10; refine HR6.out.mono ?_; rintro e w7 ⟨rb, rd, rfl, hb7⟩; refine Hid.out ?_)
      refine Nu.hid ?_
      have hB7 : Below w5.heap.size w5 w7 := HB6.out.trans (hb7.mono HB6.out.size)
      have hbr7 : Below wr.heap.size wr w7 := HBR6.out.trans (hb7.mono HBR6.out.size)
      have hs7 := hbr7.size
      have HB7 := Nu.hid hB7
      have HBR7 := Nu.hid hbr7
      have HK : Hid (∀ V, Below w7.heap.size w7 V → _ ∧ _ ∧ Below w5.heap.size w5 V ∧ wr.heap.size ≤ V.heap.size) := fun V hV => ⟨HH.out V (HB7.out.trans (hV.mono HB7.out.size)), HCL.out V (HBR7.out.trans (hV.mono HBR7.out.size)), HB7.out.trans (hV.mono HB7.out.size), by have := hV.size; omega⟩
      obtain ⟨⟨x0, x1, y0, y1, y2, y3, z0, z1, z2, z3, -, -, -, -, -, -, -⟩, ⟨p1, p2, p3, p4, p5, p6, p7⟩, -⟩ := HK.out w7 (Below.refl _ _)
      clear hb7 hB7 hbr7
      go_upto_region 17 with fail
      have f1 : decide (lw < 0) = false := by simp; omega
      have f2 : decide (l2 < lw) = false := by simp; omega
      have f3 : decide (hh < l2) = false := by simp; omega
      obtain ⟨bb, f4, f5⟩ : ∃ bb, (lw == l2) = bb ∧ ((re : Int) == 0) = bb := same_bool H4.out
      go_quiet (fail)
      clear f1 f2 f3 f4 f5 x0 x1 y0 y1 y2 y3 z0 z1 z2 z3 p1 p2 p3 p4 p5 p6 p7
      obtain ⟨wc, hwc⟩ : ∃ wc, wc = w7.drewN nq := ⟨_, rfl⟩
      rw [← hwc]
      have hbc : Below w7.heap.size w7 wc := by rw [hwc]; exact below_drewN (Below.refl _ _) _
      clear hwc
      obtain ⟨⟨x0, x1, y0, y1, y2, y3, z0, z1, z2, z3, -, -, -, -, -, -, -⟩, ⟨p1, p2, p3, p4, p5, p6, p7⟩, hB5, hsc⟩ := HK.out wc hbc
      have HBC := Nu.hid hbc
      have hlw2 : IntKind.i64.wrap (2 * lw) = 2 * lw := wrap_mid (by omega) (by omega)
      obtain ⟨cc, hcc⟩ : ∃ cc, decide (lw < l2 ∧ l2 < hh) = cc := ⟨_, rfl⟩
      have HCC := Nu.hid hcc
      clear hbc hB5 hcc
      go_upto_region 20 with fail
      clear hlw2
      go_cut [177] from 82 to 239 (fun c wt => c = .bool cc ∧ Below w7.heap.size w7 wt)
      case first =>
        obtain ⟨c2, t2⟩ : ∃ c2, decide (l2 < hh) = c2 := ⟨_, rfl⟩
        have HC2 : Hid (decide (l2 < hh) = c2) := t2
        by_cases q1 : lw < l2
        · have t1 : decide (lw < l2) = true := decide_eq_true q1
          have HCE : Hid (c2 = cc) := by rw [← HCC.out, ← HC2.out]; exact Nu.hid (decide_eq_decide.2 ⟨fun h => ⟨q1, h⟩, fun h => h.2⟩)
          clear q1
          go_quiet (fail)
          go_wp2
          go_meet
          exact ⟨by rw [HCE.out], below_drewN HBC.out _⟩
        · have t1 : decide (lw < l2) = false := decide_eq_false q1
          have HCE : Hid (false = cc) := by rw [← HCC.out]; exact Nu.hid (decide_eq_false (fun h => q1 h.1)).symm
          clear q1
          go_quiet (fail)
          go_wp2
          go_meet
          exact ⟨by rw [HCE.out], below_drewN HBC.out _⟩
      case rest =>
        obtain ⟨rfl, hbd⟩ := hcut
        clear x0 x1 y0 y1 y2 y3 z0 z1 z2 z3 p1 p2 p3 p4 p5 p6 p7
        obtain ⟨⟨x0, x1, y0, y1, y2, y3, z0, z1, z2, z3, -, -, -, -, -, -, -⟩, ⟨p1, p2, p3, p4, p5, p6, p7⟩, hB5, hsd⟩ := HK.out _ hbd
        have HBD := Nu.hid hbd
        clear hbd hB5
        go_upto_if 177 with fail
        go_cut [13] from 82 to 239 (fun c wt => c = .int .i64 ns ∧ Below w7.heap.size w7 wt)
        case first =>
          have h9 := H9.out
          have hc := HCC.out
          cases cc
          · go_wp2
            go_meet
            refine ⟨?_, HBD.out⟩
            rw [h9, if_neg (of_decide_eq_false hc)]
          · have hlw3 : IntKind.i64.wrap (2 * lw + 1) = 2 * lw + 1 := wrap_mid (by omega) (by omega)
            clear h9 hc
            go_wp2
            go_meet
            refine ⟨?_, HBD.out⟩
            rw [H9.out, if_pos (of_decide_eq_true HCC.out)]
        case rest =>
          obtain ⟨rfl, hbe⟩ := hcut
          clear x0 x1 y0 y1 y2 y3 z0 z1 z2 z3 p1 p2 p3 p4 p5 p6 p7
          obtain ⟨⟨x0, x1, y0, y1, y2, y3, z0, z1, z2, z3, -, -, -, -, -, -, -⟩, ⟨p1, p2, p3, p4, p5, p6, p7⟩, hB5, hse⟩ := HK.out _ hbe
          have HBE := Nu.hid hbe
          clear hbe hB5
          have jn : (ns != ns) = false := by simp
          cases tb
          · have jp : (pp == rr) = false := by have := H10.out; simp at this ⊢; exact this
            obtain ⟨hlw', hlt'⟩ := H7.out rfl
            have jm : min hh th = th := by omega
            have HEQ := Nu.hid hlw'
            have HNX : Hid (k + 1 ≤ es.length) := HLT.out
            clear hlw'
            go_upto_region 23 with fail
            go_quiet (fail)
            have jl : (lw != th) = false := by have := HEQ.out; simp; omega
            clear jm
            go_wp2
            go_roundw
            case rel =>
              exact ⟨k + 1, HNX.out, by go_num, (HK.out _ (below_drewN HBE.out _)).2.2.1⟩
            case measure => have := HNX.out; simp [intOf]; omega
          · have jp : (pp == rr) = true := by have := H10.out; simp at this ⊢; exact this
            have HNX : Hid (k + 1 ≤ es.length) := HLT.out
            go_upto_region 23 with fail
            go_quiet (fail)
            go_wp2
            go_loopw [14, 202] (fun c14 c202 wt => ∃ j : Nat, j ≤ es.length ∧ c202 = .int .i64 (j : Int) ∧ c14 = .int .i64 (Lo.least hh (((List.range j).filter fun i => decide (Lo.fr es s i = tt)).map (Lo.low es s))) ∧ Below w7.heap.size w7 wt) (fun _ c202 _ => es.length - (intOf c202).toNat)
            case atStart => exact ⟨0, Nat.zero_le _, rfl, rfl, below_drewN HBE.out _⟩
            case round =>
              obtain ⟨j, hj, rfl, rfl, hbj⟩ := hrel
              have HBJ := Nu.hid hbj
              obtain ⟨hheld, ⟨p1, p2, p3, p4, p5, p6, p7⟩, hB5, hsj⟩ := HK.out wr hbj
              by_cases hjl : j < es.length
              · have hjli : (j : Int) < (es.length : Int) := by omega
                have hj0 : (0 : Int) ≤ (j : Int) := by omega
                obtain ⟨g', o', e', q'⟩ := up_at hheld.l1 hjl
                cases e'
                have HEJ := Nu.hid (HEN.out wr j hB5 hjl)
                obtain ⟨x0, x1, y0, y1, y2, y3, z0, z1, z2, z3, hbl', -, -, -, -, -, -⟩ := hheld
                have HJ := Nu.hid hjl
                obtain ⟨uu, huu⟩ : ∃ uu, Lo.fr es s j = uu := ⟨_, rfl⟩
                obtain ⟨u2, hu2⟩ : ∃ u2, Lo.go_ es s j = u2 := ⟨_, rfl⟩
                obtain ⟨lj, hlj⟩ : ∃ lj, Lo.low es s j = lj := ⟨_, rfl⟩
                obtain ⟨L, hL⟩ : ∃ L, Lo.least hh (((List.range j).filter fun i => decide (Lo.fr es s i = tt)).map (Lo.low es s)) = L := ⟨_, rfl⟩
                have HST : Hid (Lo.least hh (((List.range (j + 1)).filter fun i => decide (Lo.fr es s i = tt)).map (Lo.low es s)) = if uu = tt then min L lj else L) := by
                  show _ = _
                  rw [List.range_succ, List.filter_append, List.map_append, ← hL, ← huu, ← hlj]
                  by_cases h : Lo.fr es s j = tt
                  · rw [if_pos h, show List.filter (fun i => decide (Lo.fr es s i = tt)) [j] = [j] by simp [h]]
                    exact Lo.least_snoc _ _ _
                  · rw [if_neg h, show List.filter (fun i => decide (Lo.fr es s i = tt)) [j] = [] by simp [h]]
                    simp
                rw [huu, hu2] at HEJ
                rw [hlj] at q'
                rw [hL]
                clear hbj hjl hB5 huu hu2 hlj hL
                by_cases hut : uu = tt
                · subst hut
                  have ju : ((uu : Int) == (uu : Int)) = true := by simp
                  go_wp2_with (go_at_call 9; refine HEJ.out.mono ?_; rintro e w8 ⟨rfl, hb8⟩; refine Hid.out ?_)
                  refine Nu.hid ?_
                  have hB8 : Below w7.heap.size w7 w8 := HBJ.out.trans (hb8.mono HBJ.out.size)
                  have hz := (HK.out w8 hB8).1.z0
                  have hbz := (HK.out w8 hB8).1.lt
                  have hq := (hb8.cell (p := ⟨g1, o1 + j, none⟩) (block_lt_of_cell q')).trans q'
                  have HB8 := Nu.hid hB8
                  clear hb8 hB8 q' z0
                  go_wp2
                  go_roundw
                  case rel =>
                    refine ⟨j + 1, HJ.out, by go_num, ?_, HB8.out⟩
                    first | (rw [HST.out, if_pos (by trivial)]; done) | (rw [HST.out, if_pos (by trivial)]; congr 1; split <;> omega)
                  case measure => have := HJ.out; simp [intOf]; omega
                · have ju : ((uu : Int) == (tt : Int)) = false := by simp; omega
                  have hut' : ¬ (uu : Int) = (tt : Int) := by omega
                  go_wp2_with (go_at_call 9; refine HEJ.out.mono ?_; rintro e w8 ⟨rfl, hb8⟩; have HB8 := Nu.hid (HBJ.out.trans (hb8.mono HBJ.out.size)); clear hb8)
                  go_roundw
                  case rel =>
                    refine ⟨j + 1, HJ.out, by go_num, ?_, HB8.out⟩
                    rw [HST.out, if_neg hut]
                  case measure => have := HJ.out; simp [intOf]; omega
              · have hjd : ¬ (j : Int) < (es.length : Int) := by omega
                obtain rfl : j = es.length := by omega
                have h8 := H8.out (by trivial)
                rw [← h8]
                obtain ⟨x0, x1, y0, y1, y2, y3, z0, z1, z2, z3, hbl', -, -, -, -, -, -⟩ := hheld
                have jl : (lw != lw) = false := by simp
                clear h8 hbj hjl hj
                go_wp2
                go_roundw
                case rel => exact ⟨k + 1, HNX.out, by go_num, (HK.out _ HBJ.out).2.2.1⟩
                case measure => have := HNX.out; simp [intOf]; omega
    · have hkd : ¬ (k : Int) < (es.length : Int) := by omega
      clear hb hlt hk
      go_wp2
      go_ret
      exact ⟨rfl, (HH.out _ HB.out).bel⟩

end lawLWalk
end Go.Proofs.Ytmgoahbloppdmaa
