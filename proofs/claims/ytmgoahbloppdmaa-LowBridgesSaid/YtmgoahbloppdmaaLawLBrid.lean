/-
  Proved: for every graph the law LowBridges answers true, and it reads afterwards as before. No condition.
-/
import Derived.Test.YtmgoahbloppdmaaMg31
import Derived.Test.YtmgoahbloppdmaaMg33
import Derived.Test.YtmgoahbloppdmaaMg32
import Derived.Deep.CutRange
namespace Go.Proofs.Ytmgoahbloppdmaa
open Go.ChangeShapes Go.WideShapes Go.ChangeAt Go.RowKit
namespace lawLBrid

set_option maxRecDepth 100000 in
set_option maxHeartbeats 16000000 in
theorem no (n : Int) (ao : Option Addr) (ca : Nat) (es : List (Int × Int)) (w : World) (hat : EdgesAt w ao es) (hl : es.length * 16 ≤ 140737488351232) (hv : Si.valid n es = false) :
    Calls Try.prog 4 #[.agg #[.int .i64 n, .slice ao es.length ca]] w fun e w' => e = .returned (.bool true) ∧ Below w.heap.size w w' := by
  obtain ⟨W, hW⟩ : ∃ W, W = w.alloc (.cells #[.int .i64 n, .slice ao es.length ca] 24) := ⟨_, rfl⟩
  have hB0 : Below w.heap.size w W := by rw [hW]; exact (Below.refl _ _).alloc (Nat.le_refl _) _
  have g1 : W.heap[w.heap.size]? = some (.cells #[.int .i64 n, .slice ao es.length ca] 24 (0, 0)) := by rw [hW]; exact heap_alloc_new w _
  have lt1 := lt_of_block g1
  have hatW := hat.later hB0
  have HBOX : Hid (∀ V, Below W.heap.size W V → V.cell? ⟨w.heap.size, 0, none⟩ = some (.int .i64 n) ∧ V.cell? ⟨w.heap.size, 1, none⟩ = some (.slice ao es.length ca)) := fun V hV => by
    obtain ⟨x0, x1, -⟩ := pair_cells ((hV.block w.heap.size lt1).trans g1)
    exact ⟨x0, x1⟩
  have HFX := Nu.hid (fixed8_any W)
  have HWK : Hid (∀ V, Below W.heap.size W V → _) := fun V hV => walk_no (ca := ca) hv (hatW.later hV) (by omega)
  have HWW := Nu.hid hW
  have HB0 := Nu.hid hB0
  clear hB0 g1 hW hat hatW hv
  go_enter Try.func4, Try.ntmps4
  go_wp2_with (go_at_call 6; rw [← HWW.out]; refine HFX.out.mono ?_; rintro e w1 ⟨rfl, hb1⟩; have HB1 := Nu.hid hb1; have hs1 := hb1.size; obtain ⟨x0, x1⟩ := HBOX.out _ hb1; clear hb1; refine Hid.out ?_)
  refine Nu.hid ?_
  go_wp2_with (go_at_call 7; refine (HWK.out _ HB1.out).mono ?_; rintro e w2 ⟨a1, a2, a3, a4, c1, c2, c3, c4, rfl, hF, hb2⟩; refine Hid.out ?_)
  refine Nu.hid ?_
  have hB2 : Below W.heap.size W w2 := HB1.out.trans (hb2.mono HB1.out.size)
  have HB2 := Nu.hid (hB2.alloc hB2.size (.cells #[.slice a1 0 c1, .slice a2 0 c2, .slice a3 0 c3, .slice a4 0 c4] 28))
  clear hB2 hb2 hF
  go_wp2
  go_ret
  exact ⟨rfl, HB0.out.trans (HB2.out.mono HB0.out.size)⟩

/-- Does one of the first j edges lead on from tt, back to hh or above? -/
noncomputable def leadsTo (es : List (Int × Int)) (s : Df.St) (tt : Nat) (hh : Int) (j : Nat) : Bool := (List.range j).any fun k => decide (Lo.fr es s k = tt) && decide (Lo.low es s k ≤ hh)
theorem leadsTo_succ (es : List (Int × Int)) (s : Df.St) (tt : Nat) (hh : Int) (j : Nat) : leadsTo es s tt hh (j + 1) = (leadsTo es s tt hh j || (decide (Lo.fr es s j = tt) && decide (Lo.low es s j ≤ hh))) := by
  unfold leadsTo
  rw [List.range_succ, List.any_append]
  simp
theorem leadsTo_iff (es : List (Int × Int)) (s : Df.St) (tt : Nat) (hh : Int) (j : Nat) : leadsTo es s tt hh j = true ↔ ∃ k, k < j ∧ Lo.fr es s k = tt ∧ Lo.low es s k ≤ hh := by
  unfold leadsTo
  simp

/-- Whether an edge is a bridge, by the ends where it begins and leads. -/
theorem conn_ends {n : Nat} {es : List (Int × Int)} {s : Df.St} {k : Nat} (h : Df.VF n es s) (hk : k < es.length) : Lo.Conn es s k (Lo.eU es k) (Lo.eV es k) ↔ Lo.Conn es s k (Lo.fr es s k) (Lo.go_ es s k) := by
  rcases Lo.ends_two h hk with ⟨h1, h2⟩ | ⟨h1, h2⟩
  · rw [h1, h2]
  · rw [h1, h2]
    exact ⟨Lo.Conn.symm, Lo.Conn.symm⟩

theorem br_of {es : List (Int × Int)} {s : Df.St} {k : Nat} {x : Int} (h : (x = 1 ∧ ¬ Lo.Conn es s k (Lo.eU es k) (Lo.eV es k)) ∨ (x = 0 ∧ Lo.Conn es s k (Lo.eU es k) (Lo.eV es k))) : ∃ br, (x == 1) = br ∧ (br = true ↔ ¬ Lo.Conn es s k (Lo.eU es k) (Lo.eV es k)) := by
  rcases h with ⟨rfl, h⟩ | ⟨rfl, h⟩
  · exact ⟨true, rfl, ⟨fun _ => h, fun _ => rfl⟩⟩
  · exact ⟨false, rfl, ⟨fun e => (by cases e), fun e => absurd h e⟩⟩

set_option maxRecDepth 100000 in
set_option maxHeartbeats 16000000 in
theorem yes (m : Nat) (ao : Option Addr) (ca : Nat) (es : List (Int × Int)) (w : World) (hat : EdgesAt w ao es) (hv : Si.Val m es) :
    Calls Try.prog 4 #[.agg #[.int .i64 (m : Int), .slice ao es.length ca]] w fun e w' => e = .returned (.bool true) ∧ Below w.heap.size w w' := by
  obtain ⟨W, hW⟩ : ∃ W, W = w.alloc (.cells #[.int .i64 (m : Int), .slice ao es.length ca] 24) := ⟨_, rfl⟩
  have hB0 : Below w.heap.size w W := by rw [hW]; exact (Below.refl _ _).alloc (Nat.le_refl _) _
  have g1 : W.heap[w.heap.size]? = some (.cells #[.int .i64 (m : Int), .slice ao es.length ca] 24 (0, 0)) := by rw [hW]; exact heap_alloc_new w _
  have lt1 := lt_of_block g1
  have hatW := hat.later hB0
  have hfew := hv.few
  have hhi := hv.hi
  have HBOX : Hid (∀ V, Below W.heap.size W V → V.cell? ⟨w.heap.size, 0, none⟩ = some (.int .i64 (m : Int)) ∧ V.cell? ⟨w.heap.size, 1, none⟩ = some (.slice ao es.length ca)) := fun V hV => by
    obtain ⟨x0, x1, -⟩ := pair_cells ((hV.block w.heap.size lt1).trans g1)
    exact ⟨x0, x1⟩
  have HFX := Nu.hid (fixed8_any W)
  have HWK : Hid (∀ V, Below W.heap.size W V → _) := fun V hV => walk_yes (ca := ca) hv (hatW.later hV) (by omega)
  have HAT : Hid (∀ V, Below W.heap.size W V → EdgesAt V ao es) := fun V hV => hatW.later hV
  have HV := Nu.hid hv
  have HWW := Nu.hid hW
  have HB0 := Nu.hid hB0
  clear hB0 g1 hW hat hatW hv
  go_enter Try.func4, Try.ntmps4
  go_wp2_with (go_at_call 6; rw [← HWW.out]; refine HFX.out.mono ?_; rintro e w1 ⟨rfl, hb1⟩; have HB1 := Nu.hid hb1; have hs1 := hb1.size; obtain ⟨x0, x1⟩ := HBOX.out _ hb1; clear hb1; refine Hid.out ?_)
  refine Nu.hid ?_
  go_wp2_with (go_at_call 7; refine (HWK.out _ HB1.out).mono ?_; rintro e w2 ⟨a1, a2, a3, a4, c1, c2, c3, c4, s, rfl, hF, hVF, hroom, hb2⟩; refine Hid.out ?_)
  refine Nu.hid ?_
  have hB2 : Below W.heap.size W w2 := HB1.out.trans (hb2.mono HB1.out.size)
  obtain ⟨w3, hw3⟩ : ∃ w3, w3 = w2.alloc (.cells #[.slice a1 m c1, .slice a2 m c2, .slice a3 m c3, .slice a4 es.length c4] 28) := ⟨_, rfl⟩
  have hb3 : Below w2.heap.size w2 w3 := by rw [hw3]; exact (Below.refl _ _).alloc (Nat.le_refl _) _
  have hs3 : w3.heap.size = w2.heap.size + 1 := by rw [hw3]; simp
  have hB3 : Below W.heap.size W w3 := hB2.trans (hb3.mono hB2.size)
  have hs2 := hB2.size
  have lb3 : w3.heap[w2.heap.size]? = some (.cells #[.slice a1 m c1, .slice a2 m c2, .slice a3 m c3, .slice a4 es.length c4] 28 (0, 0)) := by rw [hw3]; exact heap_alloc_new w2 _
  obtain ⟨y0, y1, y2, y3, -⟩ := four_cells lb3
  obtain ⟨x0, x1⟩ := HBOX.out _ hB3
  have HO3 := Nu.hid (of_yes (ca := ca) HV.out hVF (HAT.out w3 hB3) (hF.later hb3))
  have HB3 := Nu.hid hB3
  have HW3 := Nu.hid hw3
  have HF3 := Nu.hid (hF.later hb3)
  have HVF := Nu.hid hVF
  have HRM := Nu.hid hroom
  have HL3 := Nu.hid lb3
  rw [hw3] at x0 x1 y0 y1 y2 y3
  clear hb3 hb2 hB2 hB3 hF lb3 hw3 HWK hVF hroom
  by_cases h200 : 200 < es.length
  · have h200' : (200 : Int) < (es.length : Int) := by omega
    go_wp2
    go_ret
    rw [← HW3.out]
    exact ⟨rfl, HB0.out.trans (HB3.out.mono HB0.out.size)⟩
  have h200' : ¬ (200 : Int) < (es.length : Int) := by omega
  go_wp2_with (go_at_call 8; rw [← HW3.out]; refine HO3.out.mono ?_; rintro e w4 ⟨b1, b2, b3, b4, d1, d2, d3, d4, vs, rfl, k1, k2, k3, k4, hb4⟩; refine Hid.out ?_)
  refine Nu.hid ?_
  obtain ⟨w5, hw5⟩ : ∃ w5, w5 = w4.alloc (.cells #[.slice b1 es.length d1, .slice b2 es.length d2, .slice b3 es.length d3, .slice b4 m d4] 34) := ⟨_, rfl⟩
  have hb5 : Below w4.heap.size w4 w5 := by rw [hw5]; exact (Below.refl _ _).alloc (Nat.le_refl _) _
  have hs5 : w5.heap.size = w4.heap.size + 1 := by rw [hw5]; simp
  have hs4 := hb4.size
  have lb5 : w5.heap[w4.heap.size]? = some (.cells #[.slice b1 es.length d1, .slice b2 es.length d2, .slice b3 es.length d3, .slice b4 m d4] 34 (0, 0)) := by rw [hw5]; exact heap_alloc_new w4 _
  have HH : Hid (∀ V, Below w5.heap.size w5 V → Held w W w2.heap.size w4.heap.size m ao ca es a1 a2 a3 a4 c1 c2 c3 c4 s b1 b2 b3 b4 d1 d2 d3 d4 V) := fun V hV => by
    have h45 := hb5.trans (hV.mono hb5.size)
    have h35 := hb4.trans (h45.mono hb4.size)
    have hW5 := HB3.out.trans (h35.mono HB3.out.size)
    obtain ⟨x0, x1⟩ := HBOX.out V hW5
    obtain ⟨y0, y1, y2, y3, -⟩ := four_cells ((h35.block _ (lt_of_block HL3.out)).trans HL3.out)
    obtain ⟨z0, z1, z2, z3, -⟩ := four_cells ((hV.block _ (lt_of_block lb5)).trans lb5)
    have := hV.size
    exact ⟨x0, x1, y0, y1, y2, y3, z0, z1, z2, z3, ⟨by omega, by omega, by omega⟩, HAT.out V hW5, HF3.out.later h35, k1.later h45, k2.later h45, k3.later h45, HB0.out.trans (hW5.mono HB0.out.size)⟩
  have HEN : Hid (∀ V (k : Nat), Below w5.heap.size w5 V → k < es.length → Calls Try.prog 9 #[.agg #[.int .i64 (m : Int), .slice ao es.length ca], .agg #[.slice a1 m c1, .slice a2 m c2, .slice a3 m c3, .slice a4 es.length c4], .int .i64 (k : Int)] V fun r w' => r = .returned (.tuple #[.int .i64 (Lo.fr es s k : Int), .int .i64 (Lo.go_ es s k : Int)]) ∧ Below V.heap.size V w') := fun V k hV hk => ends_yes k hk HV.out HVF.out (HH.out V hV).edges (HH.out V hV).lf
  have HWO : Hid (∀ V (k : Nat), Below w5.heap.size w5 V → k < es.length → Calls Try.prog 11 #[.agg #[.int .i64 (m : Int), .slice ao es.length ca], .int .i64 (k : Int)] V (WoPost es s k V)) := fun V k hV hk => without_any (HH.out V hV).edges HV.out HVF.out hk
  obtain ⟨x0, x1, y0, y1, y2, y3, z0, z1, z2, z3, -, -, -, -, -, -, -⟩ := HH.out w5 (Below.refl _ _)
  have HW5 := Nu.hid hw5
  rw [hw5] at x0 x1 y0 y1 y2 y3 z0 z1 z2 z3
  clear hb4 hb5 lb5 hw5 k1 k2 k3 k4 HB3 HW3 HF3 HL3 HO3 HBOX HAT h200 h200'
  go_wp2
  rw [← HW5.out]
  clear x0 x1 y0 y1 y2 y3 z0 z1 z2 z3
  go_loopw [39] (fun cv wr => ∃ k : Nat, k ≤ es.length ∧ cv = .int .i64 (k : Int) ∧ Below w5.heap.size w5 wr) (fun cv _ => es.length - (intOf cv).toNat)
  case atStart => exact ⟨0, Nat.zero_le _, rfl, Below.refl _ _⟩
  case round =>
    obtain ⟨k, hk, rfl, hb⟩ := hrel
    have HB := Nu.hid hb
    have hsr := hb.size
    by_cases hlt : k < es.length
    · have hlti : (k : Int) < (es.length : Int) := by omega
      have hk0 : (0 : Int) ≤ (k : Int) := by omega
      obtain ⟨vlt, tlt⟩ := Lo.ends_lt HV.out HVF.out hlt
      obtain ⟨lens1, lens2, lens3, lens4⟩ := HVF.out.lens
      have hv0 : (0 : Int) ≤ (Lo.fr es s k : Int) := by omega
      have hv1 : (Lo.fr es s k : Int) < (m : Int) := by omega
      have ht0 : (0 : Int) ≤ (Lo.go_ es s k : Int) := by omega
      have ht1 : (Lo.go_ es s k : Int) < (m : Int) := by omega
      obtain ⟨gh, oh, eh, ch⟩ := lst_at (HH.out wr hb).lf.l2 (i := Lo.fr es s k) (by omega)
      obtain ⟨gp, op, ep, cp⟩ := lst_at (HH.out wr hb).lf.l1 (i := Lo.go_ es s k) (by omega)
      obtain ⟨gr, or, er, cr⟩ := lst_at (HH.out wr hb).lf.l4 (i := k) (by omega)
      obtain ⟨g1, o1, e1, q1⟩ := up_at (HH.out wr hb).l1 hlt
      dsimp only at eh ep er
      subst eh ep er e1
      have HCL : Hid (∀ V, Below wr.heap.size wr V → V.cell? ⟨gh, oh + Lo.fr es s k, none⟩ = some (.int .i64 (Lo.hf es s k)) ∧ V.cell? ⟨gp, op + Lo.go_ es s k, none⟩ = some (.int .i64 (Df.at_ s.par (Lo.go_ es s k))) ∧ V.cell? ⟨gr, or + k, none⟩ = some (.int .i64 (Df.at_ s.ori k)) ∧ V.cell? ⟨g1, o1 + k, none⟩ = some (.int .i64 (Lo.low es s k))) := fun V hV =>
        ⟨(hV.cell (p := ⟨gh, oh + Lo.fr es s k, none⟩) (block_lt_of_cell ch)).trans ch, (hV.cell (p := ⟨gp, op + Lo.go_ es s k, none⟩) (block_lt_of_cell cp)).trans cp, (hV.cell (p := ⟨gr, or + k, none⟩) (block_lt_of_cell cr)).trans cr, (hV.cell (p := ⟨g1, o1 + k, none⟩) (block_lt_of_cell q1)).trans q1⟩
      have H1 : Hid (Lo.low es s k < Lo.hf es s k → Lo.Conn es s k (Lo.eU es k) (Lo.eV es k)) := fun h => (conn_ends HVF.out hlt).2 (Lo.low_conn HV.out HVF.out hlt h)
      have H2 : Hid (Lo.tree es s k = false → Lo.Conn es s k (Lo.eU es k) (Lo.eV es k)) := fun h => (conn_ends HVF.out hlt).2 (Lo.back_conn HV.out HVF.out hlt h)
      have H3 : Hid (Lo.tree es s k = true → (leadsTo es s (Lo.go_ es s k) (Lo.hf es s k) es.length = true ↔ Lo.Conn es s k (Lo.eU es k) (Lo.eV es k))) := fun h => by
        rw [leadsTo_iff, conn_ends HVF.out hlt]
        exact Lo.tree_conn HV.out HVF.out hlt h
      have H10 : Hid (Lo.tree es s k = decide (Df.at_ s.par (Lo.go_ es s k) = Df.at_ s.ori k)) := rfl
      obtain ⟨x0, x1, y0, y1, y2, y3, z0, z1, z2, z3, hbl, -, -, -, -, -, -⟩ := HH.out wr hb
      have HEk := Nu.hid (HEN.out wr k hb hlt)
      have HWk : Hid (∀ V, Below w5.heap.size w5 V → _) := fun V hV => HWO.out V k hV hlt
      have HNX : Hid (k + 1 ≤ es.length) := hlt
      clear hb ch cp cr q1 lens1 lens2 lens3 lens4 vlt tlt hlt hk
      obtain ⟨vv, hvv⟩ : ∃ vv, Lo.fr es s k = vv := ⟨_, rfl⟩
      obtain ⟨tt, htt⟩ : ∃ tt, Lo.go_ es s k = tt := ⟨_, rfl⟩
      obtain ⟨lw, hlw⟩ : ∃ x, Lo.low es s k = x := ⟨_, rfl⟩
      obtain ⟨hh, hhh⟩ : ∃ x, Lo.hf es s k = x := ⟨_, rfl⟩
      obtain ⟨pp, hpp⟩ : ∃ x, Df.at_ s.par (Lo.go_ es s k) = x := ⟨_, rfl⟩
      obtain ⟨rr, hrr⟩ : ∃ x, Df.at_ s.ori k = x := ⟨_, rfl⟩
      obtain ⟨tb, htb⟩ : ∃ x, Lo.tree es s k = x := ⟨_, rfl⟩
      rw [hpp, hvv, htt, hlw, hhh, hrr] at HCL
      rw [hlw, hhh] at H1
      rw [htb] at H2 H3 H10
      rw [hpp, hrr] at H10
      rw [hhh, htt] at H3
      rw [hvv, htt] at HEk
      rw [hvv] at hv0 hv1
      rw [htt] at ht0 ht1
      clear hvv hlw hhh hpp hrr htb htt
      go_wp2_with (go_at_call 9; refine HEk.out.mono ?_; rintro e w6 ⟨rfl, hb6⟩; refine Hid.out ?_)
      refine Nu.hid ?_
      have hB6 : Below w5.heap.size w5 w6 := HB.out.trans (hb6.mono HB.out.size)
      have hs6 := hb6.size
      obtain ⟨x0, x1, y0, y1, y2, y3, z0, z1, z2, z3, -, -, -, -, -, -, -⟩ := HH.out w6 hB6
      have HW6 := Nu.hid (HWk.out w6 hB6)
      have HB6 := Nu.hid hB6
      have HBR6 := Nu.hid hb6
      clear hb6 hB6
      go_wp2_with (go_at_call 11; refine HW6.out.mono ?_; rintro e w7 ⟨x, rfl, hx, hb7⟩; refine Hid.out ?_)
      refine Nu.hid ?_
      have hB7 : Below w5.heap.size w5 w7 := HB6.out.trans (hb7.mono HB6.out.size)
      have hbr7 : Below wr.heap.size wr w7 := HBR6.out.trans (hb7.mono HBR6.out.size)
      have hs7 := hbr7.size
      have HB7 := Nu.hid hB7
      have HBR7 := Nu.hid hbr7
      obtain ⟨br, jbr, hbr⟩ := br_of hx
      have HBR := Nu.hid hbr
      have HK : Hid (∀ V, Below w7.heap.size w7 V → _ ∧ _ ∧ Below w5.heap.size w5 V ∧ wr.heap.size ≤ V.heap.size) := fun V hV => ⟨HH.out V (HB7.out.trans (hV.mono HB7.out.size)), HCL.out V (HBR7.out.trans (hV.mono HBR7.out.size)), HB7.out.trans (hV.mono HB7.out.size), by have := hV.size; omega⟩
      obtain ⟨⟨x0, x1, y0, y1, y2, y3, z0, z1, z2, z3, -, -, -, -, -, -, -⟩, ⟨p1, p2, p3, p4⟩, -⟩ := HK.out w7 (Below.refl _ _)
      clear hb7 hB7 hbr7 hx hbr
      go_upto_region 16 with fail
      clear jbr
      go_cut [66] from 40 to 112 (fun c wt => c = .bool false ∧ Below w7.heap.size w7 wt)
      case first =>
        by_cases q : lw < hh
        · have t1 : decide (lw < hh) = true := decide_eq_true q
          cases br
          · clear q
            go_quiet (fail)
            go_wp2
            go_meet
            exact ⟨rfl, below_drewN (Below.refl _ _) _⟩
          · exact absurd (H1.out q) (HBR.out.1 rfl)
        · have t1 : decide (lw < hh) = false := decide_eq_false q
          clear q
          go_quiet (fail)
          go_wp2
          go_meet
          exact ⟨rfl, below_drewN (Below.refl _ _) _⟩
      case rest =>
        obtain ⟨rfl, hbc⟩ := hcut
        obtain ⟨⟨x0, x1, y0, y1, y2, y3, z0, z1, z2, z3, -, -, -, -, -, -, -⟩, ⟨p1, p2, p3, p4⟩, hB5, hsc⟩ := HK.out wc hbc
        have HBC := Nu.hid hbc
        clear hbc hB5
        cases tb
        · have jp : (pp != rr) = true := by have := H10.out; simp at this ⊢; exact this
          cases br
          · go_upto_region 18 with fail
            go_quiet (fail)
            go_wp2
            go_roundw
            case rel => exact ⟨k + 1, HNX.out, by go_num, (HK.out _ (below_drewN HBC.out _)).2.2.1⟩
            case measure => have := HNX.out; simp [intOf]; omega
          · exact absurd (H2.out rfl) (HBR.out.1 rfl)
        · have jp : (pp != rr) = false := by have := H10.out; simp at this ⊢; exact this
          have H3' : Hid (leadsTo es s tt hh es.length = true ↔ Lo.Conn es s k (Lo.eU es k) (Lo.eV es k)) := H3.out rfl
          go_upto_region 18 with fail
          go_quiet (fail)
          go_wp2
          go_loopw [11, 82] (fun c11 c82 wt => ∃ j : Nat, j ≤ es.length ∧ c82 = .int .i64 (j : Int) ∧ c11 = .bool (leadsTo es s tt hh j) ∧ Below w7.heap.size w7 wt) (fun _ c82 _ => es.length - (intOf c82).toNat)
          case atStart => exact ⟨0, Nat.zero_le _, rfl, rfl, below_drewN HBC.out _⟩
          case round =>
            obtain ⟨j, hj, rfl, rfl, hbj⟩ := hrel
            have HBJ := Nu.hid hbj
            obtain ⟨hheld, ⟨p1, p2, p3, p4⟩, hB5, hsj⟩ := HK.out wr hbj
            obtain ⟨L, hL⟩ : ∃ L, leadsTo es s tt hh j = L := ⟨_, rfl⟩
            rw [hL]
            by_cases hjl : j < es.length
            · have hjli : (j : Int) < (es.length : Int) := by omega
              have hj0 : (0 : Int) ≤ (j : Int) := by omega
              obtain ⟨g', o', e', q'⟩ := up_at hheld.l1 hjl
              cases e'
              have HEJ := Nu.hid (HEN.out wr j hB5 hjl)
              have HJ := Nu.hid hjl
              obtain ⟨x0, x1, y0, y1, y2, y3, z0, z1, z2, z3, hbl', -, -, -, -, -, -⟩ := hheld
              obtain ⟨uu, huu⟩ : ∃ uu, Lo.fr es s j = uu := ⟨_, rfl⟩
              obtain ⟨u2, hu2⟩ : ∃ u2, Lo.go_ es s j = u2 := ⟨_, rfl⟩
              obtain ⟨lj, hlj⟩ : ∃ lj, Lo.low es s j = lj := ⟨_, rfl⟩
              have HST : Hid (leadsTo es s tt hh (j + 1) = (L || (decide (uu = tt) && decide (lj ≤ hh)))) := by
                show _ = _
                rw [leadsTo_succ, hL, huu, hlj]
              rw [huu, hu2] at HEJ
              rw [hlj] at q'
              clear hbj hjl hB5 huu hu2 hlj hL
              go_wp2_with (go_at_call 9; refine HEJ.out.mono ?_; rintro e w8 ⟨rfl, hb8⟩; refine Hid.out ?_)
              refine Nu.hid ?_
              have hB8 : Below w7.heap.size w7 w8 := HBJ.out.trans (hb8.mono HBJ.out.size)
              obtain ⟨⟨x0, x1, y0, y1, y2, y3, z0, z1, z2, z3, hbl', -, -, -, -, -, -⟩, ⟨p1, p2, p3, p4⟩, -⟩ := HK.out w8 hB8
              have hq := (hb8.cell (p := ⟨g1, o1 + j, none⟩) (block_lt_of_cell q')).trans q'
              have HB8 := Nu.hid hB8
              clear hb8 hB8 q'
              by_cases hut : uu = tt
              · subst hut
                have ju : ((uu : Int) == (uu : Int)) = true := by simp
                by_cases hle : lj ≤ hh
                · have t1 : decide (lj ≤ hh) = true := decide_eq_true hle
                  go_upto_region 26 with fail
                  go_quiet (fail)
                  go_wp2
                  go_roundw
                  case rel => exact ⟨j + 1, HJ.out, by go_num, by rw [HST.out]; simp [hle], below_drewN HB8.out _⟩
                  case measure => have := HJ.out; simp [intOf]; omega
                · have t1 : decide (lj ≤ hh) = false := decide_eq_false hle
                  go_upto_region 26 with fail
                  go_quiet (fail)
                  go_wp2
                  go_roundw
                  case rel => exact ⟨j + 1, HJ.out, by go_num, by rw [HST.out]; simp [hle], below_drewN HB8.out _⟩
                  case measure => have := HJ.out; simp [intOf]; omega
              · have ju : ((uu : Int) == (tt : Int)) = false := by simp; omega
                go_upto_region 26 with fail
                go_quiet (fail)
                go_wp2
                go_roundw
                case rel => exact ⟨j + 1, HJ.out, by go_num, by rw [HST.out]; simp [hut], below_drewN HB8.out _⟩
                case measure => have := HJ.out; simp [intOf]; omega
            · have hjd : ¬ (j : Int) < (es.length : Int) := by omega
              obtain rfl : j = es.length := by omega
              have h3 := H3'.out
              have h4 := HBR.out
              rw [hL] at h3
              have hne : br ≠ L := fun e => by
                subst e
                cases br
                · exact Bool.false_ne_true (h4.2 (fun c => Bool.false_ne_true (h3.2 c)))
                · exact (h4.1 rfl) (h3.1 rfl)
              clear h3 h4 hbj hjl hj hL hheld hB5
              cases br <;> cases L <;> first | exact absurd rfl hne | skip
              all_goals
                clear hne
                go_wp2
                go_roundw
                case rel => exact ⟨k + 1, HNX.out, by go_num, (HK.out _ HBJ.out).2.2.1⟩
                case measure => have := HNX.out; simp [intOf]; omega
    · have hkd : ¬ (k : Int) < (es.length : Int) := by omega
      clear hb hlt hk
      go_wp2
      go_ret
      exact ⟨rfl, (HH.out _ HB.out).bel⟩

theorem walk (n : Int) (ao : Option Addr) (ca : Nat) (es : List (Int × Int)) (w : World) (_ : -9223372036854775808 ≤ n ∧ n ≤ 9223372036854775807) (hq : PairsIn w ao es.length ca es) (hl : es.length * 16 ≤ 140737488351232) :
    Calls Try.prog 4 #[.agg #[.int .i64 n, .slice ao es.length ca]] w fun e w' => e = .returned (.bool true) ∧ Below w.heap.size w w' := by
  cases hv : Si.valid n es
  · exact no n ao ca es w hq.hat hl hv
  · have hV := Si.valid_iff.1 hv
    obtain ⟨m, rfl⟩ : ∃ m : Nat, n = (m : Int) := ⟨n.toNat, by have := hV.lo; omega⟩
    exact yes m ao ca es w hq.hat hV

set_option maxRecDepth 100000 in
/-- What the walk gives, for every argument and every world. -/
theorem contract (H : Type) (enc : TypeId × Value → H) (W : World) (base : Nat) (args : Array Value) (ds gs : List (DataW H)) (before : List MemPlace)
    (hval : ∀ (j : Nat) t v, Try.f4.params[j]? = some t → args[j]? = some v → Value.okWide Try.prog W .any base t v)
    (hW : DataW.Whole enc Try.prog Try.f4.params.toList Rows.lowBridgesSpec.vars false W args.toList ds gs before)
    (hsz : (DataW.weightsEach Try.prog (Try.f4.params.toList ++ (OpenSpec.ofChange Rows.lowBridgesSpec).bare.plain.varTypes Try.prog) (ds ++ gs)).all (· ≤ reachBytes) = true)
    :
    Calls Try.prog 4 args W fun e W' => ∃ v, e = .returned v ∧ Rows.lowBridgesSpec.post enc Try.prog Try.f4 false true false false W args v W' := by
  have hW' := hW
  obtain ⟨p, q, hA0, hV, rfl, hfz, hnd⟩ := hW
  have hA : DataW.TrodAll enc Try.prog W 0 (fun _ => true) true Try.f4.params.toList args.toList ds p := hA0
  rw [Try.params4] at hA hval hsz
  obtain ⟨v0, vs0, d0, ds0, p0, q0, hargs, rfl, rfl, h0, r0⟩ := trodAll_cons hA
  obtain ⟨rfl, rfl, rfl⟩ := trodAll_nil r0
  obtain rfl : args = #[v0] := by cases args; simp_all
  obtain ⟨rfl, rfl⟩ := trodVars_none hV
  have k0 := h0
  have lt0 : ∀ x ∈ p0, x.block < W.heap.size := by obtain ⟨m, hm⟩ := k0; exact DataW.trod_lt m _ _ _ hm
  obtain ⟨n0, a0, cap0, q0, rfl, x0, w0, u0⟩ := graph_of_trod (j := 0) (hval 0 24 v0 rfl rfl) h0 hsz rfl rfl
  clear hA0
  refine (walk n0 a0 cap0 q0 W x0 w0 u0).mono fun e W' ⟨he, bel⟩ => ?_
  subst he
  exact ⟨_, rfl, _, _, _, [], _, [], hW', trodAll_mk1 (shut_bool Try.underlying4 _), (trodAll_cons_mk (Below.trod laidOut (by kernel_rfl) (of_decide_eq_true (by kernel_rfl)) k0 bel lt0) trodAll_mk0), rfl, bel.frame _, fun h => by cases h⟩

theorem laid_met (os : Os) : laidMet Try.prog Rows.lowBridgesRow.laid ((settled os).forCall (fun _ _ => 0) ⟨#[], #[.agg #[.int .i64 0, .slice none 0 0]], []⟩).memory :=
  laidMet_of_run' 100 (by kernel_rfl) (by kernel_rfl)
theorem reads (os : Os) {H : Type} (enc : TypeId × Value → H) : ∃ places, DataW.whole enc Try.prog ((settled os).forCall (fun _ _ => 0) ⟨#[], #[.agg #[.int .i64 0, .slice none 0 0]], []⟩).memory Try.f4.params.toList Rows.lowBridgesSpec.vars false (#[.agg #[.int .i64 0, .slice none 0 0]] : Array Value).toList 8 = some ([.agg [.lit (.int .i64 0), .nil]], [], places) :=
  ⟨[], by kernel_rfl⟩

set_option maxRecDepth 100000 in
theorem lifted (os : Os) (started : os.Started) (H : Type) (enc : TypeId × Value → H) (F : Stop.Interp) :
    ReturnsInHanded {} Try.checked os 4 .any ((OpenSpec.ofChange Rows.lowBridgesSpec).preRow enc Try.prog Try.f4 Rows.lowBridgesRow.domain false Rows.lowBridgesRow.laid) (((OpenSpec.ofChange Rows.lowBridgesSpec).at F).post enc Try.prog Try.f4 false true false false) := by
  obtain ⟨places, hx⟩ := reads os enc
  refine returnsInHanded_of_row (C := Try.checked) (s := (OpenSpec.ofChange Rows.lowBridgesSpec)) own started (by kernel_rfl) Try.func4
    (witness_row_at (enc := enc) (C := Try.checked) false (settled os) #[.agg #[.int .i64 0, .slice none 0 0]] rfl (by kernel_rfl) (by kernel_rfl) (by kernel_rfl)
      (OpenSpec.preRow_of_cond 8 hx (by kernel_rfl) (fun k hk => by cases hk) (by kernel_rfl) (laid_met os))) ?_
  intro W base args ds gs before hval hW _ _ hsz _ _ _
  exact contract H enc W base args ds gs before hval hW hsz 

theorem said : Rows.LowBridgesSaid :=
  OpenClaim.holds_of_cond 4 Try.f4 rfl rfl rfl rfl rfl rfl rfl ⟨rfl, rfl, rfl, rfl, rfl⟩ rfl rfl rfl rfl rfl (by kernel_rfl) Try.func4 (by kernel_rfl)
    (of_decide_eq_true (by kernel_rfl)) (by unfold Func.isWrapper; first | (rw [if_pos (by decide +kernel)]; kernel_rfl) | (rw [if_neg (by decide +kernel)]; exact ⟨rfl, rfl⟩))
    (fun os started H enc _ F => by rw [OpenClaim.pre_eq_preRow]; exact lifted os started H enc F)

end lawLBrid

theorem lowBridges_holds : Rows.LowBridgesSaid := lawLBrid.said

#print axioms lowBridges_holds
end Go.Proofs.Ytmgoahbloppdmaa
