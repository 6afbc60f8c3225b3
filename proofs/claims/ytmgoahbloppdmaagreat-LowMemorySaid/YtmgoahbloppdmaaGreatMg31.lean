import Derived.Test.YtmgoahbloppdmaaGreatMg30
import Derived.Test.YtmgoahbloppdmaaGreatMg09
import Derived.Test.YtmgoahbloppdmaaGreatMg29
import Derived.Test.YtmgoahbloppdmaaGreatMg08
/-
  The document's of of layer 8: Low, Low2 and Nest of one edge.
-/
namespace Go.Proofs.YtmgoahbloppdmaaGreat
open Go.RowKit

namespace Lo
theorem least_take {h : Int} {l : List Int} {i : Nat} {x : Int} (hx : l[i]? = some x) : least h (l.take (i + 1)) = min (least h (l.take i)) x := by
  rw [List.take_add_one, hx]
  exact least_snoc h _ x
theorem least_pick {h : Int} {l : List Int} {i : Nat} {x : Int} {p : Int → Bool} (hx : l[i]? = some x) (hp : p x = true) : least h ((l.take (i + 1)).filter p) = min (least h ((l.take i).filter p)) x := by
  rw [List.take_add_one, hx, List.filter_append]
  have : List.filter p (some x).toList = [x] := by simp [hp]
  rw [this]
  exact least_snoc h _ x
theorem least_pass {h : Int} {l : List Int} {i : Nat} {x : Int} {p : Int → Bool} (hx : l[i]? = some x) (hp : p x = false) : least h ((l.take (i + 1)).filter p) = least h ((l.take i).filter p) := by
  rw [List.take_add_one, hx, List.filter_append]
  have : List.filter p (some x).toList = [] := by simp [hp]
  rw [this, List.append_nil]
end Lo

/-- A number of a list of one's own. -/
theorem own_cell8 {w : World} {B n c : Nat} {ao : Option Addr} {l : List Int} (h : OwnZ w B (.slice ao n c) l) {i : Nat} {z : Int} (hz : l[i]? = some z) : ∃ gx, ao = some ⟨gx, 0, none⟩ ∧ w.cell? ⟨gx, i, none⟩ = some (.int .i64 z) := by
  unfold OwnZ at h
  rcases h.2 with ⟨h', h0⟩ | ⟨gx, cap, cur, e, _⟩
  · have hl0 : l = [] := List.length_eq_zero_iff.1 h0
    rw [hl0] at hz
    simp at hz
  · cases e
    refine ⟨gx, rfl, ?_⟩
    have := World.ownsRow.cells h (g := gx) rfl i (.int .i64 z) (by rw [List.getElem?_map, hz]; rfl)
    have ea : ((⟨gx, 0, none⟩ : Addr).add i) = ⟨gx, i, none⟩ := by
      by_cases h0 : i = 0 <;> simp [Addr.add, h0]
    rw [ea] at this
    exact this

section
variable {w : World} {n : Nat} {ao : Option Addr} {ca : Nat} {es : List (Int × Int)} {f : For} {s : Df.St}

set_option maxRecDepth 100000 in
set_option maxHeartbeats 16000000 in
theorem r8of_any (e : Nat) (he : EdgesAt w ao es) (hv : Si.Val n es) (hF : LstF w f s) (hVF : Df.VF n es s) (hel : e < es.length) :
    Calls Tryz.prog 17 #[.agg #[.int .i64 (n : Int), .slice ao es.length ca], f.val s, .int .i64 (e : Int)] w fun r w' => r = .returned (.tuple #[.int .i64 (Lo.low es s e), .int .i64 (Lo.low2 es s e), .int .i64 (Lo.nest es s e)]) ∧ Below w.heap.size w w' := by
  obtain ⟨l1, l2, l3, l4⟩ := hVF.lens
  have hfew := hv.few
  have hnn := hv.hi
  have hends := Lo.ends_lt hv hVF hel
  have hroot := Df.rooted_of hv hVF.once hVF.hang hVF.side
  obtain ⟨W, hW⟩ : ∃ W, W = bxw w n ao ca es f s := ⟨_, rfl⟩
  have hbx : BxAt w W n ao ca es f s := by rw [hW]; exact BxAt.new
  have HBX := Nu.hid hbx
  have HF : Hid (∀ V, BxAt w V n ao ca es f s → LstF V f s) := fun V hV => hF.later hV.bel
  have HEN : Hid (∀ V (k : Nat), BxAt w V n ao ca es f s → k < es.length → Calls Tryz.prog 18 #[.agg #[.int .i64 (n : Int), .slice ao es.length ca], .agg #[.slice f.a1 s.par.length f.c1, .slice f.a2 s.hei.length f.c2, .slice f.a3 s.ord.length f.c3, .slice f.a4 s.ori.length f.c4], .int .i64 (k : Int)] V fun r w' => r = .returned (.tuple #[.int .i64 (Lo.fr es s k : Int), .int .i64 (Lo.go_ es s k : Int)]) ∧ Below V.heap.size V w') := fun V k hV hk => r8ends_any (f := f) k (he.later hV.bel) hv (hF.later hV.bel) hVF hk
  have HOUT : Hid (∀ V, BxAt w V n ao ca es f s → Calls Tryz.prog 23 #[.agg #[.int .i64 (n : Int), .slice ao es.length ca], .agg #[.slice f.a1 s.par.length f.c1, .slice f.a2 s.hei.length f.c2, .slice f.a3 s.ord.length f.c3, .slice f.a4 s.ori.length f.c4], .int .i64 (e : Int)] V (OutPost8 (Lo.rets es s e) V)) := fun V hV => r8out_any (f := f) e (he.later hV.bel) hv (hF.later hV.bel) hVF hel
  have HRL : Hid (∀ b ∈ Lo.rets es s e, b < es.length ∧ Lo.go_ es s b < n) := fun b hb => ⟨(Lo.rets_lt hv hVF hel hb).1, (Lo.ends_lt hv hVF (Lo.rets_lt hv hVF hel hb).1).2⟩
  have HLE := Nu.hid (Lo.low_le es s e)
  have HLQ := Nu.hid (Lo.low_eq_iff hv hVF hel)
  have HLT := Nu.hid (Lo.low_lt_iff hv hVF hel)
  have HLN := Nu.hid (Lo.low_nonneg hv hVF hel)
  have hhf : 0 ≤ Lo.hf es s e ∧ Lo.hf es s e < (n : Int) := ⟨(hroot _ hends.1).1, (hroot _ hends.1).2.1⟩
  have hrl : (Lo.rets es s e).length ≤ 4194304 := by
    cases ht : Lo.tree es s e with
    | true =>
      unfold Lo.rets
      rw [if_pos ht]
      have := Lo.retTo_len es s e es.length
      unfold Lo.retTo at this
      omega
    | false => rw [Lo.rets_back ht]; simp
  obtain ⟨a1, a2, a3, a4, c1, c2, c3, c4⟩ := f
  unfold For.val
  unfold bxw at hW
  have x0 := hbx.x0
  have x1 := hbx.x1
  have k0 := hbx.k0
  have k1 := hbx.k1
  have k2 := hbx.k2
  have k3 := hbx.k3
  dsimp only at hW HEN HOUT k0 k1 k2 k3 ⊢
  rw [l1, l2, l3, l4] at hW HEN HOUT ⊢
  rw [l1] at k0
  rw [l2] at k1
  rw [l3] at k2
  rw [l4] at k3
  have HW := Nu.hid hW
  have HE0 := Nu.hid (HEN.out W e hbx hel)
  obtain ⟨v, hv'⟩ : ∃ v, Lo.fr es s e = v := ⟨_, rfl⟩
  obtain ⟨h, hh⟩ : ∃ h, Lo.hf es s e = h := ⟨_, rfl⟩
  rw [hv'] at HE0 hends
  rw [hh] at hhf HLE HLT
  have HHV : Hid (Df.at_ s.hei v = h) := by rw [← hh, ← hv']; rfl
  have HLOW : Hid (Lo.low es s e = Lo.least h (Lo.hs es s e)) := by rw [← hh]; rfl
  have HLOW2 : Hid (Lo.low2 es s e = Lo.least h ((Lo.hs es s e).filter fun x => decide (Lo.low es s e < x))) := by rw [← hh]; rfl
  have HNEST : Hid (Lo.nest es s e = if Lo.low es s e < Lo.low2 es s e ∧ Lo.low2 es s e < h then 2 * Lo.low es s e + 1 else 2 * Lo.low es s e) := by rw [← hh]; rfl
  have HHS : Hid (∀ (i b : Nat), (Lo.rets es s e)[i]? = some b → (Lo.hs es s e)[i]? = some (Df.at_ s.hei (Lo.go_ es s b))) := fun i b hb => by
    unfold Lo.hs
    rw [List.getElem?_map, hb]
    rfl
  have HHL : Hid ((Lo.hs es s e).length = (Lo.rets es s e).length) := by
    have : (Lo.hs es s e).length = (Lo.rets es s e).length := by unfold Lo.hs; simp
    exact this
  rw [hW] at x0 x1 k0 k1 k2 k3
  obtain ⟨hv0, hv1⟩ := hends
  have v0 : (0 : Int) ≤ (v : Int) := by omega
  have v1 : (v : Int) < (n : Int) := by omega
  clear hF hW hbx he hv hVF hroot hh hv'
  go_enter Tryz.func17, Tryz.ntmps17
  go_wp2_with (go_at_call 18; rw [← HW.out]; refine HE0.out.mono ?_; rintro r w1 ⟨rfl, hb1⟩; refine Hid.out ?_)
  refine Nu.hid ?_
  have hq1 := HBX.out.later hb1
  have HQ1 := Nu.hid hq1
  have x0 := hq1.x0
  have x1 := hq1.x1
  have k0 := hq1.k0
  have k1 := hq1.k1
  have k2 := hq1.k2
  have k3 := hq1.k3
  dsimp only at k0 k1 k2 k3
  rw [l1] at k0
  rw [l2] at k1
  rw [l3] at k2
  rw [l4] at k3
  obtain ⟨b2, o2, e2, d2⟩ := lst_at (HF.out w1 hq1).l2 (i := v) (by omega)
  rw [show s.hei.getD v (-1) = h from HHV.out] at d2
  dsimp only at e2
  subst e2
  have HO1 := Nu.hid (HOUT.out w1 hq1)
  clear hq1 hb1
  go_wp2_with (go_at_call 23; refine HO1.out.mono ?_; rintro r w2 ⟨vb, rfl, hown, hb2⟩; refine Hid.out ?_)
  refine Nu.hid ?_
  obtain ⟨vo, vc, hvb, -, -⟩ := hown.form
  have hzl : (zs (Lo.rets es s e)).length = (Lo.rets es s e).length := by unfold zs; simp
  rw [hzl] at hvb
  obtain ⟨N, hN⟩ : ∃ N, (Lo.rets es s e).length = N := ⟨_, rfl⟩
  rw [hN] at hvb hrl
  subst hvb
  have HN := Nu.hid hN
  have HST : Hid (∀ V, Below w2.heap.size w2 V → BxAt w V n ao ca es ⟨a1, some ⟨b2, o2, none⟩, a3, a4, c1, c2, c3, c4⟩ s ∧ OwnZ V w1.heap.size (.slice vo N vc) (zs (Lo.rets es s e))) := fun V hV => ⟨(HQ1.out.later hb2).later hV, hown.later hV⟩
  clear hown hb2 hzl hN x0 x1 k0 k1 k2 k3 d2
  go_wp2
  go_loopw [12, 14] (fun c12 c14 wr => ∃ i : Nat, i ≤ N ∧ c14 = .int .i64 (i : Int) ∧ c12 = .int .i64 (Lo.least h ((Lo.hs es s e).take i)) ∧ Below w2.heap.size w2 wr) (fun _ c14 _ => N - (intOf c14).toNat)
  case atStart => exact ⟨0, Nat.zero_le _, rfl, rfl, Below.refl _ _⟩
  case round =>
    obtain ⟨i, hi, rfl, rfl, hb⟩ := hrel
    have HB := Nu.hid hb
    by_cases hlt : i < N
    · obtain ⟨b, hb0⟩ : ∃ b, (Lo.rets es s e)[i]? = some b := ⟨_, List.getElem?_eq_getElem (by rw [HN.out]; exact hlt)⟩
      obtain ⟨hbl, hbg⟩ := HRL.out b (List.mem_of_getElem? hb0)
      have hzb : (zs (Lo.rets es s e))[i]? = some (b : Int) := by unfold zs; rw [List.getElem?_map, hb0]; rfl
      have hhs := HHS.out i b hb0
      obtain ⟨gx, hgx, -⟩ := own_cell8 (HST.out wr hb).2 hzb
      subst hgx
      have HLB : Hid (∀ D : LW wr, BxAt w D.val n ao ca es ⟨a1, some ⟨b2, o2, none⟩, a3, a4, c1, c2, c3, c4⟩ s ∧ D.val.cell? ⟨w.heap.size, 0, none⟩ = some (.int .i64 n) ∧ D.val.cell? ⟨w.heap.size, 1, none⟩ = some (.slice ao es.length ca) ∧ D.val.cell? ⟨w.heap.size + 1, 0, none⟩ = some (.slice a1 n c1) ∧ D.val.cell? ⟨w.heap.size + 1, 1, none⟩ = some (.slice (some ⟨b2, o2, none⟩) n c2) ∧ D.val.cell? ⟨w.heap.size + 1, 2, none⟩ = some (.slice a3 n c3) ∧ D.val.cell? ⟨w.heap.size + 1, 3, none⟩ = some (.slice a4 es.length c4)) := fun D => by
        have hz := (HST.out D.val (hb.trans (D.h.mono hb.size))).1
        have q0 := hz.k0
        have q1 := hz.k1
        have q2 := hz.k2
        have q3 := hz.k3
        dsimp only at q0 q1 q2 q3
        rw [l1] at q0
        rw [l2] at q1
        rw [l3] at q2
        rw [l4] at q3
        exact ⟨hz, hz.x0, hz.x1, q0, q1, q2, q3⟩
      have y0 : ∀ D : LW wr, D.val.cell? ⟨w.heap.size, 0, none⟩ = some (.int .i64 n) := fun D => (HLB.out D).2.1
      have y1 : ∀ D : LW wr, D.val.cell? ⟨w.heap.size, 1, none⟩ = some (.slice ao es.length ca) := fun D => (HLB.out D).2.2.1
      have y2 : ∀ D : LW wr, D.val.cell? ⟨w.heap.size + 1, 0, none⟩ = some (.slice a1 n c1) := fun D => (HLB.out D).2.2.2.1
      have y3 : ∀ D : LW wr, D.val.cell? ⟨w.heap.size + 1, 1, none⟩ = some (.slice (some ⟨b2, o2, none⟩) n c2) := fun D => (HLB.out D).2.2.2.2.1
      have y4 : ∀ D : LW wr, D.val.cell? ⟨w.heap.size + 1, 2, none⟩ = some (.slice a3 n c3) := fun D => (HLB.out D).2.2.2.2.2.1
      have y5 : ∀ D : LW wr, D.val.cell? ⟨w.heap.size + 1, 3, none⟩ = some (.slice a4 es.length c4) := fun D => (HLB.out D).2.2.2.2.2.2
      have y6 : ∀ D : LW wr, D.val.cell? ⟨gx, i, none⟩ = some (.int .i64 (b : Int)) := fun D => by
        obtain ⟨g', e', h'⟩ := own_cell8 (HST.out D.val (hb.trans (D.h.mono hb.size))).2 hzb
        cases e'
        exact h'
      obtain ⟨t, ht⟩ : ∃ t, Lo.go_ es s b = t := ⟨_, rfl⟩
      obtain ⟨x, hx⟩ : ∃ x, Df.at_ s.hei t = x := ⟨_, rfl⟩
      rw [ht] at hhs hbg
      rw [hx] at hhs
      have HCX : Hid (∀ D : LW wr, D.val.cell? ⟨b2, o2 + t, none⟩ = some (.int .i64 x)) := fun D => by
        obtain ⟨b', o', e', d'⟩ := lst_at (HF.out D.val (HLB.out D).1).l2 (i := t) (by omega)
        cases e'
        rw [show s.hei.getD t (-1) = x from hx] at d'
        exact d'
      have HEB : Hid (∀ D : LW wr, Calls Tryz.prog 18 #[.agg #[.int .i64 (n : Int), .slice ao es.length ca], .agg #[.slice a1 n c1, .slice (some ⟨b2, o2, none⟩) n c2, .slice a3 n c3, .slice a4 es.length c4], .int .i64 (b : Int)] D.val fun r w' => r = .returned (.tuple #[.int .i64 (Lo.fr es s b : Int), .int .i64 (t : Int)]) ∧ Below D.val.heap.size D.val w') := fun D => by
        have := HEN.out D.val b (HLB.out D).1 hbl
        rw [ht] at this
        exact this
      have hne := LW.any wr
      have hlti : (i : Int) < (N : Int) := by omega
      have hi0 : (0 : Int) ≤ (i : Int) := by omega
      have t0 : (0 : Int) ≤ (t : Int) := by omega
      have t1 : (t : Int) < (n : Int) := by omega
      have HI := Nu.hid hlt
      have HMIN := Nu.hid (Lo.least_take (h := h) hhs)
      obtain ⟨m, hm⟩ : ∃ m, Lo.least h ((Lo.hs es s e).take i) = m := ⟨_, rfl⟩
      rw [hm] at HMIN ⊢
      clear hb hb0 hbl hbg hzb hhs ht hx hlt hm
      go_wp2_with fail
      refine wp_region_lw (by kernel_rfl) (by kernel_rfl) ?_
      repeat (go_big_quiet_step ((first | (go_at_call 18; exact Calls.lw (HEB.out _)))))
      refine wpQuiet_nil ?_
      rintro _ ⟨D, rfl⟩
      have z3 := y3 D
      have z7 := HCX.out D
      have HBD : Hid (Below w2.heap.size w2 D.val) := HB.out.trans (D.h.mono HB.out.size)
      clear y0 y1 y2 y3 y4 y5 y6
      go_wp2
      go_roundw
      case rel =>
        refine ⟨i + 1, by have := HI.out; omega, by go_num, ?_, HBD.out⟩
        first | rw [HMIN.out, show (if x < m then x else m) = min m x by split <;> omega] | rw [HMIN.out]
      case measure => have := HI.out; simp [intOf]; omega
    · have hd : ¬ ((i : Int) < (N : Int)) := by omega
      obtain rfl : N = i := by omega
      have htk : (Lo.hs es s e).take N = Lo.hs es s e := List.take_of_length_le (by rw [HHL.out, HN.out]; exact Nat.le_refl _)
      rw [htk, ← HLOW.out]
      obtain ⟨m, hm⟩ : ∃ m, Lo.low es s e = m := ⟨_, rfl⟩
      rw [hm] at HLOW2 HNEST HLE HLQ HLT HLN ⊢
      obtain ⟨m2, hm2⟩ : ∃ m2, Lo.low2 es s e = m2 := ⟨_, rfl⟩
      rw [hm2] at HLOW2 HNEST HLE HLQ
      have HEQ : Hid (∀ z, Lo.nest es s e = z → Ending.returned (.tuple #[.int .i64 m, .int .i64 m2, .int .i64 z]) = .returned (.tuple #[.int .i64 (Lo.low es s e), .int .i64 (Lo.low2 es s e), .int .i64 (Lo.nest es s e)])) := fun z hz => by rw [hm, hm2, hz]
      have hm0 := HLN.out
      have hmle := HLE.out
      by_cases hmh : m = h
      · have hz2 : m2 = h := by omega
        have HZ : Hid (Lo.nest es s e = 2 * h) := by
          have h : Lo.nest es s e = 2 * h := by
            rw [HNEST.out, if_neg (by omega)]
            omega
          exact h
        subst hmh
        subst hz2
        have t5 : (m2 == m2) = true := by simp
        clear hb hlt htk hm hm2 HLT HLQ HLE HNEST HLOW2 hmle
        go_wp2
        go_ret3
        exact ⟨HEQ.out _ HZ.out, (HST.out _ HB.out).1.bel⟩
      · have t5 : (m == h) = false := by simp [hmh]
        have hmlt : m < h := by omega
        clear hb hlt htk hm hm2
        go_wp2
        clear hd
        go_loopw [17, 18] (fun c17 c18 wr => ∃ i : Nat, i ≤ N ∧ c18 = .int .i64 (i : Int) ∧ c17 = .int .i64 (Lo.least h (((Lo.hs es s e).take i).filter fun x => decide (m < x))) ∧ Below w2.heap.size w2 wr) (fun _ c18 _ => N - (intOf c18).toNat)
        case atStart => exact ⟨0, Nat.zero_le _, rfl, rfl, HB.out⟩
        case round =>
          obtain ⟨i, hi, rfl, rfl, hb⟩ := hrel
          have HB := Nu.hid hb
          by_cases hlt : i < N
          · obtain ⟨b, hb0⟩ : ∃ b, (Lo.rets es s e)[i]? = some b := ⟨_, List.getElem?_eq_getElem (by rw [HN.out]; exact hlt)⟩
            obtain ⟨hbl, hbg⟩ := HRL.out b (List.mem_of_getElem? hb0)
            have hzb : (zs (Lo.rets es s e))[i]? = some (b : Int) := by unfold zs; rw [List.getElem?_map, hb0]; rfl
            have hhs := HHS.out i b hb0
            obtain ⟨gx, hgx, -⟩ := own_cell8 (HST.out wr hb).2 hzb
            subst hgx
            have HLB : Hid (∀ D : LW wr, BxAt w D.val n ao ca es ⟨a1, some ⟨b2, o2, none⟩, a3, a4, c1, c2, c3, c4⟩ s ∧ D.val.cell? ⟨w.heap.size, 0, none⟩ = some (.int .i64 n) ∧ D.val.cell? ⟨w.heap.size, 1, none⟩ = some (.slice ao es.length ca) ∧ D.val.cell? ⟨w.heap.size + 1, 0, none⟩ = some (.slice a1 n c1) ∧ D.val.cell? ⟨w.heap.size + 1, 1, none⟩ = some (.slice (some ⟨b2, o2, none⟩) n c2) ∧ D.val.cell? ⟨w.heap.size + 1, 2, none⟩ = some (.slice a3 n c3) ∧ D.val.cell? ⟨w.heap.size + 1, 3, none⟩ = some (.slice a4 es.length c4)) := fun D => by
              have hz := (HST.out D.val (hb.trans (D.h.mono hb.size))).1
              have q0 := hz.k0
              have q1 := hz.k1
              have q2 := hz.k2
              have q3 := hz.k3
              dsimp only at q0 q1 q2 q3
              rw [l1] at q0
              rw [l2] at q1
              rw [l3] at q2
              rw [l4] at q3
              exact ⟨hz, hz.x0, hz.x1, q0, q1, q2, q3⟩
            have y0 : ∀ D : LW wr, D.val.cell? ⟨w.heap.size, 0, none⟩ = some (.int .i64 n) := fun D => (HLB.out D).2.1
            have y1 : ∀ D : LW wr, D.val.cell? ⟨w.heap.size, 1, none⟩ = some (.slice ao es.length ca) := fun D => (HLB.out D).2.2.1
            have y2 : ∀ D : LW wr, D.val.cell? ⟨w.heap.size + 1, 0, none⟩ = some (.slice a1 n c1) := fun D => (HLB.out D).2.2.2.1
            have y3 : ∀ D : LW wr, D.val.cell? ⟨w.heap.size + 1, 1, none⟩ = some (.slice (some ⟨b2, o2, none⟩) n c2) := fun D => (HLB.out D).2.2.2.2.1
            have y4 : ∀ D : LW wr, D.val.cell? ⟨w.heap.size + 1, 2, none⟩ = some (.slice a3 n c3) := fun D => (HLB.out D).2.2.2.2.2.1
            have y5 : ∀ D : LW wr, D.val.cell? ⟨w.heap.size + 1, 3, none⟩ = some (.slice a4 es.length c4) := fun D => (HLB.out D).2.2.2.2.2.2
            have y6 : ∀ D : LW wr, D.val.cell? ⟨gx, i, none⟩ = some (.int .i64 (b : Int)) := fun D => by
              obtain ⟨g', e', h'⟩ := own_cell8 (HST.out D.val (hb.trans (D.h.mono hb.size))).2 hzb
              cases e'
              exact h'
            obtain ⟨t, ht⟩ : ∃ t, Lo.go_ es s b = t := ⟨_, rfl⟩
            obtain ⟨x, hx⟩ : ∃ x, Df.at_ s.hei t = x := ⟨_, rfl⟩
            rw [ht] at hhs hbg
            rw [hx] at hhs
            have HCX : Hid (∀ D : LW wr, D.val.cell? ⟨b2, o2 + t, none⟩ = some (.int .i64 x)) := fun D => by
              obtain ⟨b', o', e', d'⟩ := lst_at (HF.out D.val (HLB.out D).1).l2 (i := t) (by omega)
              cases e'
              rw [show s.hei.getD t (-1) = x from hx] at d'
              exact d'
            have HEB : Hid (∀ D : LW wr, Calls Tryz.prog 18 #[.agg #[.int .i64 (n : Int), .slice ao es.length ca], .agg #[.slice a1 n c1, .slice (some ⟨b2, o2, none⟩) n c2, .slice a3 n c3, .slice a4 es.length c4], .int .i64 (b : Int)] D.val fun r w' => r = .returned (.tuple #[.int .i64 (Lo.fr es s b : Int), .int .i64 (t : Int)]) ∧ Below D.val.heap.size D.val w') := fun D => by
              have := HEN.out D.val b (HLB.out D).1 hbl
              rw [ht] at this
              exact this
            have hne := LW.any wr
            have hlti : (i : Int) < (N : Int) := by omega
            have hi0 : (0 : Int) ≤ (i : Int) := by omega
            have t0 : (0 : Int) ≤ (t : Int) := by omega
            have t1 : (t : Int) < (n : Int) := by omega
            have HI := Nu.hid hlt
            obtain ⟨m3, hm3⟩ : ∃ m3, Lo.least h (((Lo.hs es s e).take i).filter fun x => decide (m < x)) = m3 := ⟨_, rfl⟩
            by_cases hmx : m < x
            · have HMIN := Nu.hid (Lo.least_pick (h := h) (p := fun x => decide (m < x)) hhs (by simpa using hmx))
              rw [hm3] at HMIN ⊢
              clear hb hb0 hbl hbg hzb hhs ht hx hlt hm3
              go_wp2_with fail
              refine wp_region_lw (by kernel_rfl) (by kernel_rfl) ?_
              repeat (go_big_quiet_step ((first | (go_at_call 18; exact Calls.lw (HEB.out _)))))
              refine wpQuiet_nil ?_
              rintro _ ⟨D, rfl⟩
              have z3 := y3 D
              have z7 := HCX.out D
              have HBD : Hid (Below w2.heap.size w2 D.val) := HB.out.trans (D.h.mono HB.out.size)
              clear y0 y1 y2 y3 y4 y5 y6
              go_wp2
              go_roundw
              case rel =>
                refine ⟨i + 1, by have := HI.out; omega, by go_num, ?_, HBD.out⟩
                first | rw [HMIN.out, show (if x < m3 then x else m3) = min m3 x by split <;> omega] | rw [HMIN.out]
              case measure => have := HI.out; simp [intOf]; omega
            · have HMIN := Nu.hid (Lo.least_pass (h := h) (p := fun x => decide (m < x)) hhs (by simpa using hmx))
              rw [hm3] at HMIN ⊢
              have t6 : decide (m < x) = false := by simp only [decide_eq_false_iff_not]; exact hmx
              clear hb hb0 hbl hbg hzb hhs ht hx hlt hm3 hmx
              go_wp2_with fail
              refine wp_region_lw (by kernel_rfl) (by kernel_rfl) ?_
              repeat (go_big_quiet_step ((first | (go_at_call 18; exact Calls.lw (HEB.out _)))))
              refine wpQuiet_nil ?_
              rintro _ ⟨D, rfl⟩
              have z3 := y3 D
              have z7 := HCX.out D
              have HBD : Hid (Below w2.heap.size w2 D.val) := HB.out.trans (D.h.mono HB.out.size)
              clear y0 y1 y2 y3 y4 y5 y6
              go_wp2
              go_roundw
              case rel => exact ⟨i + 1, by have := HI.out; omega, by go_num, by rw [HMIN.out], HBD.out⟩
              case measure => have := HI.out; simp [intOf]; omega
          · have hd : ¬ ((i : Int) < (N : Int)) := by omega
            obtain rfl : N = i := by omega
            have htk : (Lo.hs es s e).take N = Lo.hs es s e := List.take_of_length_le (by rw [HHL.out, HN.out]; exact Nat.le_refl _)
            rw [htk, ← HLOW2.out]
            have hne2 : m ≠ m2 := fun h => by
              have h1 := HLQ.out.1 h
              have h2 := HLT.out.1 hmlt
              exact h2 h1
            by_cases hm2h : m2 < h
            · have HZ : Hid (Lo.nest es s e = 2 * m + 1) := by
                have h : Lo.nest es s e = 2 * m + 1 := by rw [HNEST.out, if_pos ⟨by omega, hm2h⟩]
                exact h
              clear hb hlt htk
              go_wp2
              go_ret3
              exact ⟨HEQ.out _ HZ.out, (HST.out _ HB.out).1.bel⟩
            · have HZ : Hid (Lo.nest es s e = 2 * m) := by
                have h : Lo.nest es s e = 2 * m := by rw [HNEST.out, if_neg (fun h => hm2h h.2)]
                exact h
              have t7 : decide (m2 < h) = false := by simp only [decide_eq_false_iff_not]; exact hm2h
              clear hb hlt htk
              go_wp2
              go_ret3
              exact ⟨HEQ.out _ HZ.out, (HST.out _ HB.out).1.bel⟩
end

end Go.Proofs.YtmgoahbloppdmaaGreat

/-
  A list of Booleans in a block.
-/
namespace Go.Proofs.YtmgoahbloppdmaaGreat
open Go.RowKit Go.Sort

/-- Block g holds just these Booleans. -/
def BoolsBlk (w : World) (g : Nat) (l : List Bool) : Prop := w.heap[g]? = some (.cells (l.map Value.bool).toArray 4 (0, 0))

section
variable {w w' : World} {g : Nat} {l : List Bool}
theorem BoolsBlk.lt (h : BoolsBlk w g l) : g < w.heap.size := lt_of_block h
theorem BoolsBlk.cell (h : BoolsBlk w g l) {i : Nat} {x : Bool} (hx : l[i]? = some x) : w.cell? ⟨g, i, none⟩ = some (.bool x) := by
  unfold BoolsBlk at h
  simp [World.cell?, h, hx]
theorem BoolsBlk.free (h : BoolsBlk w g l) (i : Nat) : w.frozen? ⟨g, i, none⟩ = false := by
  unfold BoolsBlk at h
  simp [World.frozen?, h]
theorem BoolsBlk.set (h : BoolsBlk w g l) (i : Nat) (x : Bool) : BoolsBlk (w.setCell ⟨g, i, none⟩ (.bool x)) g (l.set i x) := by
  unfold BoolsBlk at h ⊢
  rw [heap_setCell_same w g i _ _ _ h]
  simp [List.map_set]
theorem BoolsBlk.later (h : BoolsBlk w g l) (hb : Below w.heap.size w w') : BoolsBlk w' g l := (hb.block g h.lt).trans h
theorem BoolsBlk.set_far {b i : Nat} (h : BoolsBlk w g l) (hf : g ≠ b) (x : Value) : BoolsBlk (w.setCell ⟨b, i, none⟩ x) g l := (blk_same hf x).trans h
end

end Go.Proofs.YtmgoahbloppdmaaGreat

/-
  The document's ordered.
-/
namespace Go.Proofs.YtmgoahbloppdmaaGreat
open Go.RowKit

namespace Df
/-- What is left of a way, from p on. -/
def lv (p : Int) : List Int → List Int
  | [] => []
  | x :: W => if x = p then x :: W else lv p W
theorem lv_eq {p i : Int} : ∀ (W B : List Int), (leave p i W B).1 = lv p W
  | [], B => rfl
  | x :: W, B => by
    unfold leave lv
    by_cases h : x = p
    · rw [if_pos h, if_pos h]
    · rw [if_neg h, if_neg h]
      exact lv_eq W _
theorem lv_hit {p : Int} {W : List Int} : lv p (p :: W) = p :: W := by unfold lv; rw [if_pos rfl]
theorem lv_miss {p x : Int} {W : List Int} (h : x ≠ p) : lv p (x :: W) = lv p W := by
  conv => lhs; unfold lv
  rw [if_neg h]
theorem lv_sub {p : Int} : ∀ {W : List Int} {x : Int}, x ∈ lv p W → x ∈ W
  | [], _, h => h
  | y :: W, x, h => by
    unfold lv at h
    by_cases e : y = p
    · rw [if_pos e] at h; exact h
    · rw [if_neg e] at h; exact List.mem_cons_of_mem _ (lv_sub h)
theorem lv_len {p : Int} : ∀ (W : List Int), (lv p W).length ≤ W.length
  | [] => Nat.le_refl _
  | y :: W => by
    unfold lv
    by_cases e : y = p
    · rw [if_pos e]; exact Nat.le_refl _
    · rw [if_neg e]; have := lv_len (p := p) W; simp; omega
theorem side_succ {n : Nat} {es : List (Int × Int)} {s : St} {k : Nat} {W B : List Int} {x p : Int} (h : side n es s k = some (W, B)) (hx : at_ s.ord k = x) (hp : up es s x = p) (hn : ¬ (p ≠ -1 ∧ lv p W = [])) : ∃ B', side n es s (k + 1) = some (x :: lv p W, B') := by
  refine ⟨(leave p k W B).2, ?_⟩
  conv => lhs; unfold side
  rw [h, Option.bind_some]
  dsimp only
  rw [hx, hp, lv_eq, if_neg hn]
theorem side_stop {n : Nat} {es : List (Int × Int)} {s : St} {k : Nat} {W B : List Int} {x p : Int} (h : side n es s k = some (W, B)) (hx : at_ s.ord k = x) (hp : up es s x = p) (h1 : p ≠ -1) (h2 : lv p W = []) : side n es s (k + 1) = none := by
  conv => lhs; unfold side
  rw [h, Option.bind_some]
  dsimp only
  rw [hx, hp, lv_eq, if_pos ⟨h1, h2⟩]

/-- What was seen of the first k. -/
def SeenTo (n : Nat) (s : St) (k : Nat) (S : List Bool) : Prop := S.length = n ∧ ∀ v : Nat, v < n → (S.getD v false = true ↔ ∃ a, a < k ∧ at_ s.ord a = (v : Int))
theorem SeenTo.start (n : Nat) (s : St) : SeenTo n s 0 (List.replicate n false) := ⟨by simp, fun v hv => by
  rw [List.getD_eq_getElem?_getD, List.getElem?_replicate, if_pos hv]
  simp⟩
theorem SeenTo.step {n k : Nat} {s : St} {S : List Bool} {v : Nat} (h : SeenTo n s k S) (hv : at_ s.ord k = (v : Int)) (hvn : v < n) : SeenTo n s (k + 1) (S.set v true) := by
  refine ⟨by simp [h.1], fun u hu => ?_⟩
  rw [List.getD_eq_getElem?_getD, List.getElem?_set]
  by_cases e : v = u
  · rw [if_pos e, if_pos (by rw [h.1]; exact hvn)]
    exact ⟨fun _ => ⟨k, by omega, by rw [hv, e]⟩, fun _ => rfl⟩
  · rw [if_neg e, ← List.getD_eq_getElem?_getD, h.2 u hu]
    constructor
    · rintro ⟨a, ha, h1⟩
      exact ⟨a, by omega, h1⟩
    · rintro ⟨a, ha, h1⟩
      by_cases ea : a = k
      · subst ea
        rw [hv] at h1
        omega
      · exact ⟨a, by omega, h1⟩
theorem Once.step {n k : Nat} {s : St} {S : List Bool} {v : Nat} (h : Once n s k) (hS : SeenTo n s k S) (hv : at_ s.ord k = (v : Int)) (hvn : v < n) (hno : S.getD v false = false) : Once n s (k + 1) := fun i hi => by
  by_cases e : i = k
  · subst e
    rw [hv]
    refine ⟨by omega, fun j hj e => ?_⟩
    have := (hS.2 v hvn).2 ⟨j, hj, e⟩
    rw [hno] at this
    cases this
  · exact h i (by omega)
end Df

theorem OwnZ.take0 {w : World} {B g l c : Nat} {K : List Int} (h : OwnZ w B (.slice (some ⟨g, 0, none⟩) l c) K) (hl : K.length = l) : OwnZ w B (.slice (some ⟨g, 0, none⟩) 0 c) [] := by
  unfold OwnZ at h ⊢
  rw [hl] at h
  exact own_prefix (p := 0) (i := l) (xs := []) (by simpa using h) rfl

/-- ordered, under way. -/
structure OrdAt (w wr : World) (n : Nat) (ao : Option Addr) (ca : Nat) (es : List (Int × Int)) (f : For) (s : Df.St) (gs g c : Nat) (S : List Bool) (W : List Int) : Prop where
  bx : BxAt w wr n ao ca es f s
  sb : BoolsBlk wr gs S
  ow : OwnZ wr (w.heap.size + 2) (.slice (some ⟨g, 0, none⟩) W.length c) W.reverse
  gl : w.heap.size + 2 ≤ gs
  ne : g ≠ gs

section
variable {w wr V : World} {n : Nat} {ao : Option Addr} {ca : Nat} {es : List (Int × Int)} {f : For} {s : Df.St} {gs g c : Nat} {S : List Bool} {W : List Int}

theorem BxAt.same (h : BxAt w wr n ao ca es f s) (hb : Below w.heap.size w V) (h1 : ∀ k, k < w.heap.size + 2 → V.heap[k]? = wr.heap[k]?) : BxAt w V n ao ca es f s := ⟨hb, (h1 _ (by omega)).trans h.g, (h1 _ (by omega)).trans h.k⟩

theorem OrdAt.later (h : OrdAt w wr n ao ca es f s gs g c S W) (hb : Below wr.heap.size wr V) : OrdAt w V n ao ca es f s gs g c S W := ⟨h.bx.later hb, h.sb.later hb, h.ow.later hb, h.gl, h.ne⟩
theorem OrdAt.mark (h : OrdAt w wr n ao ca es f s gs g c S W) (v : Nat) : OrdAt w (wr.setCell ⟨gs, v, none⟩ (.bool true)) n ao ca es f s gs g c (S.set v true) W :=
  ⟨h.bx.same (h.bx.bel.setCell (p := ⟨gs, v, none⟩) (by have := h.gl; show w.heap.size ≤ gs; omega) _) (fun k hk => blk_same (by have := h.gl; omega) _), h.sb.set v true, h.ow.set_far (fun e => h.ne (Option.some.inj e)) _, h.gl, h.ne⟩
theorem OrdAt.clear (h : OrdAt w wr n ao ca es f s gs g c S W) : OrdAt w wr n ao ca es f s gs g c S [] := ⟨h.bx, h.sb, h.ow.take0 (by simp), h.gl, h.ne⟩
theorem OrdAt.pop {x : Int} (h : OrdAt w wr n ao ca es f s gs g c S (x :: W)) : OrdAt w wr n ao ca es f s gs g c S W := by
  refine ⟨h.bx, h.sb, ?_, h.gl, h.ne⟩
  have := h.ow
  rw [List.reverse_cons] at this
  have h2 := OwnZ.front (K := W.reverse) (x := x) (g := g) (c := c) (by simpa using this)
  simpa using h2
theorem OrdAt.top {x : Int} (h : OrdAt w wr n ao ca es f s gs g c S (x :: W)) : wr.cell? ⟨g, W.length, none⟩ = some (.int .i64 x) ∧ W.length + 1 ≤ c := by
  have := h.ow
  rw [List.reverse_cons] at this
  obtain ⟨g', c', e, h1, h2, _⟩ := this.row_snoc
  injection e with e1 e2 e3
  injection e1 with e1
  injection e1 with e4
  subst e4
  subst e3
  simp at h1 h2
  exact ⟨h1, h2⟩
theorem OrdAt.pushed {x : Int} {v' : Value} {w1 : World} {o : Obj} (h : OrdAt w wr n ao ca es f s gs g c S W) (hown : OwnZ w1 (w.heap.size + 2) v' (W.reverse ++ [x])) (hg : (wr.alloc o).grownBy w1 (Value.ownBlock (.slice (some ⟨g, 0, none⟩) W.length c))) (hat : v'.ownBlock = Value.ownBlock (.slice (some ⟨g, 0, none⟩) W.length c) ∨ v'.ownBlock = some (wr.heap.size + 1)) : ∃ g' c', v' = .slice (some ⟨g', 0, none⟩) (W.length + 1) c' ∧ OrdAt w w1 n ao ca es f s gs g' c' S (x :: W) := by
  obtain ⟨g', c', e, h1, h2, h3, h4⟩ := hown.row_snoc
  rw [List.length_reverse] at e h1 h2
  subst e
  have hgl := h.ow.lt (b := g) rfl
  have hsl := h.sb.lt
  have hsz := h.bx.bel.size
  have hkl := lt_of_block h.bx.k
  have keep : ∀ b, b < wr.heap.size → b ≠ g → w1.heap[b]? = wr.heap[b]? := fun b hb hn => by
    rw [hg.block b (by rw [World.size_alloc]; omega) (fun e => hn (Option.some.inj e))]
    exact Below.heap_alloc wr _ b hb
  have hbel : Below w.heap.size w w1 := by
    have h5 : Wrote (fun k => k = g) wr w1 := ⟨hg.os, hg.tape, hg.output, by have := hg.size; rw [World.size_alloc] at this; omega, fun k hk hn => keep k hk hn⟩
    exact h.bx.bel.trans (h5.below hsz fun k hk => by subst hk; omega)
  refine ⟨g', c', rfl, h.bx.same hbel (fun k hk => keep k (by omega) (by omega)), (keep gs hsl (fun e => h.ne e.symm)).trans h.sb, ?_, h.gl, ?_⟩
  · rw [List.reverse_cons]
    exact hown
  · rcases hat with e | e
    · have h5 : g' = g := Option.some.inj e
      rw [h5]; exact h.ne
    · have h5 : g' = wr.heap.size + 1 := Option.some.inj e
      omega
end

end Go.Proofs.YtmgoahbloppdmaaGreat
