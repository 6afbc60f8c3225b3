/-
  The statements' own 'beyond': numbers of any kind.
-/
import Derived.Test.YtlnkcebfnamdcaaCsVertex
import Derived.Deep.RegionHeld3
namespace Go.Proofs.Ytlnkcebfnamdcaa
open Go.RowKit Go.Sort

theorem Cs.IsHalf.ex (es : List (Int × Int)) (x y : Int) : ∃ r, Cs.IsHalf es x y r := by
  by_cases h : ∃ j : Nat, j < 2 * es.length ∧ (Cs.fr es j : Int) = x ∧ (Cs.to es j : Int) = y
  · obtain ⟨j, h1, h2, h3⟩ := h
    exact ⟨j, .inl ⟨j, h1, h2, h3, rfl⟩⟩
  · exact ⟨-1, .inr ⟨rfl, fun j hj hc => h ⟨j, hj, hc⟩⟩⟩

theorem Cs.IsHalf.same {n : Nat} {es : List (Int × Int)} (hv : Si.Val n es) {x y r r' : Int} (h : Cs.IsHalf es x y r) (h' : Cs.IsHalf es x y r') : r = r' := by
  rcases h with ⟨j, h1, h2, h3, rfl⟩ | ⟨rfl, hn⟩ <;> rcases h' with ⟨j', h1', h2', h3', rfl⟩ | ⟨rfl, hn'⟩
  · rcases Nat.lt_trichotomy j j' with h | h | h
    · have := Cs.to_rises hv h h1' (by omega)
      omega
    · rw [h]
    · have := Cs.to_rises hv h h1 (by omega)
      omega
  · exact absurd ⟨h2, h3⟩ (hn' j h1)
  · exact absurd ⟨h2', h3'⟩ (hn j' h1')
  · rfl

theorem Cs.outI_fr {n : Nat} {es : List (Int × Int)} {x : Int} {i : Nat} (h : i ∈ Cs.outI n es x) : i < 2 * es.length ∧ (Cs.fr es i : Int) = x := by
  unfold Cs.outI at h
  split at h
  · obtain ⟨j, hj⟩ := List.mem_iff_getElem?.1 h
    obtain ⟨h1, h2, _⟩ := Cs.out_of hj
    exact ⟨h1, by omega⟩
  · simp at h

theorem Cs.outI_has {n : Nat} {es : List (Int × Int)} (hv : Si.Val n es) {i : Nat} (h : i < 2 * es.length) : i ∈ Cs.outI n es (Cs.fr es i : Int) := by
  rw [Cs.outI_in (Cs.half_lt hv h).1]
  exact List.mem_of_getElem? (Cs.out_at h rfl)

/-- What Half answers, by the document's answer. -/
theorem half_by {n : Nat} {es : List (Int × Int)} (hv : Si.Val n es) {x y r : Int} (hr : Cs.IsHalf es x y r) {v : Value} {w : World} (h : IsAdj w v n es) :
    Calls Try.prog 14 #[v, .int .i64 x, .int .i64 y] w fun e w' => e = .returned (.tuple #[.int .i64 (if 0 ≤ r then r else 0), .bool (decide (0 ≤ r))]) ∧ Below w.heap.size w w' := by
  refine (half_any v n es x y w h).mono ?_
  rintro e w' ⟨⟨i, hi, ht, he⟩ | ⟨hno, he⟩, hb⟩
  · obtain ⟨h1, h2⟩ := Cs.outI_fr hi
    obtain rfl : r = (i : Int) := hr.same hv (.inl ⟨i, h1, h2, ht, rfl⟩)
    rw [if_pos (by omega), decide_eq_true (by omega)]
    exact ⟨he, hb⟩
  · have : r = -1 := hr.same hv (.inr ⟨rfl, fun j hj hc => by
      refine hno j ?_ hc.2
      have := Cs.outI_has hv hj
      rw [hc.1] at this
      exact this⟩)
    subst this
    exact ⟨he, hb⟩

/-- The document's Half. -/
theorem r4half_by {n : Nat} {ao : Option Addr} {ca : Nat} {es : List (Int × Int)} (hv : Si.Val n es) {x y r : Int} (hr : Cs.IsHalf es x y r) {w : World} (he : EdgesAt w ao es) :
    Calls Try.prog 34 #[.agg #[.int .i64 (n : Int), .slice ao es.length ca], .int .i64 x, .int .i64 y] w fun e w' => e = .returned (.int .i64 r) ∧ Below w.heap.size w w' := by
  refine (r4half_any n ao ca es x y w he hv).mono ?_
  rintro e w' ⟨r', he', hr', hb⟩
  rw [hr.same hv hr']
  exact ⟨he', hb⟩

set_option maxRecDepth 100000 in
set_option maxHeartbeats 8000000 in
theorem beyond_any (p n : Nat) (es : List (Int × Int)) (ao : Option Addr) (ca : Nat) (an : Option Addr) (cn ln : Nat) (zs : List Int) (w : World) (h : IsAdj w (.pointer (some ⟨p, 0, none⟩)) n es) (hv : Si.Val n es) (he : EdgesAt w ao es) (hzl : zs.length = ln) (hz : IntsAt w an zs) :
    Calls Try.prog 19 #[.pointer (some ⟨p, 0, none⟩), .agg #[.int .i64 (n : Int), .slice ao es.length ca], .slice an ln cn] w fun e w' => e = .returned (.bool true) ∧ Below w.heap.size w w' := by
  have hfew := hv.few
  have hadj : ∀ W, Below w.heap.size w W → IsAdj W (.pointer (some ⟨p, 0, none⟩)) n es := fun W hb => h.later hb
  have HADJ := Nu.hid hadj
  have HV := Nu.hid hv
  have HE := Nu.hid he
  have HZ := Nu.hid hz
  clear h hv he hz hadj
  go_enter Try.func19, Try.ntmps19
  go_wp2
  go_loopw [7] (fun cv wr => ∃ i : Nat, i ≤ ln ∧ cv = .int .i64 i ∧ wr.heap[w.heap.size]? = some (.cells #[.int .i64 (n : Int), .slice ao es.length ca] 24 (0, 0)) ∧ Below w.heap.size w wr) (fun cv _ => ln - (intOf cv).toNat)
  case atStart => exact ⟨0, Nat.zero_le _, rfl, heap_alloc_new w _, (Below.refl _ _).alloc (Nat.le_refl _) _⟩
  case round =>
    obtain ⟨i, hi, rfl, hg, hb⟩ := hrel
    obtain ⟨x0, x1, -⟩ := pair_cells hg
    have hsg := lt_of_block hg
    have HG := Nu.hid hg
    have HB := Nu.hid hb
    by_cases hlt : i < ln ∧ i < 60
    · obtain ⟨h1, h2⟩ := hlt
      have hi0 : (0 : Int) ≤ (i : Int) := by omega
      have hil : (i : Int) < (ln : Int) := by omega
      have hi6 : (i : Int) < 60 := by omega
      obtain ⟨x, hx⟩ : ∃ x, zs[i]? = some x := ⟨_, List.getElem?_eq_getElem (by omega)⟩
      obtain ⟨b, o, rfl, hc⟩ := (HZ.out.later hb) i x hx
      have hbl := block_lt_of_cell hc
      clear hg hb hx
      -- no vertex
      go_upto_region 5 with fail
      go_cut [40] from 27 to 41 (fun s wt => s = .bool false ∧ Below wr.heap.size wr wt)
      case first =>
        by_cases q1 : 0 ≤ x ∧ x < (n : Int)
        · obtain ⟨q1, q2⟩ := q1
          have q3 : ¬ (x < 0) := by omega
          have q4 : ¬ ((n : Int) ≤ x) := by omega
          go_wp2
          go_meet
          exact ⟨rfl, Below.refl _ _⟩
        · have hve := vertex_any _ n es x none 0 wr (HADJ.out wr HB.out)
          have hno : Cs.outZ n es x = [] := by unfold Cs.outZ; rw [Cs.outI_no q1]; rfl
          rw [hno] at hve
          have HVE := Nu.hid (hve (IntsAt.nil _ _))
          clear hve hno
          by_cases q2 : x < 0
          · clear q1
            go_wp2_with (go_at_call 13; refine HVE.out.mono ?_; rintro e w1 ⟨rfl, hb1⟩)
            go_meet
            exact ⟨rfl, hb1⟩
          · have q3 : (n : Int) ≤ x := by omega
            clear q1
            go_wp2_with (go_at_call 13; refine HVE.out.mono ?_; rintro e w1 ⟨rfl, hb1⟩)
            go_meet
            exact ⟨rfl, hb1⟩
      case rest =>
        obtain ⟨rfl, hb1⟩ := hcut
        have HB1 := Nu.hid (HB.out.trans (hb1.mono HB.out.size))
        have HG1 := Nu.hid ((hb1.block _ hsg).trans HG.out)
        have hs1 := hb1.size
        have hc1 := (hb1.cell (p := ⟨b, o + i, none⟩) hbl).trans hc
        obtain ⟨y0, y1, -⟩ := pair_cells HG1.out
        clear hb1 x0 x1 hc HG HB
        -- no half-edge
        go_upto_region 7 with fail
        go_cut [68] from 41 to 69 (fun s wt => s = .bool false ∧ Below wc.heap.size wc wt)
        case first =>
          by_cases q1 : 0 ≤ x ∧ x < 2 * (es.length : Int)
          · obtain ⟨q1, q2⟩ := q1
            have q3 : ¬ (x < 0) := by omega
            have q4 : ¬ (2 * (es.length : Int) ≤ x) := by omega
            go_wp2
            go_meet
            exact ⟨rfl, Below.refl _ _⟩
          · have hfr := from_any _ n es x wc (HADJ.out wc HB1.out)
            rw [Cs.frI_no q1] at hfr
            have hto := to_any _ n es x wc (HADJ.out wc HB1.out)
            rw [Cs.toI_no q1] at hto
            have haf := after_any _ n es x wc (HADJ.out wc HB1.out)
            rw [Cs.afterI_no q1] at haf
            have HFR := Nu.hid hfr
            have HTO := Nu.hid hto
            have HAF := Nu.hid haf
            clear hfr hto haf
            by_cases q2 : x < 0
            · clear q1
              go_wp2_with (first
                | (go_at_call 16; refine HFR.out.mono ?_; rintro e w1 ⟨rfl, rfl⟩)
                | (go_at_call 17; refine HTO.out.mono ?_; rintro e w1 ⟨rfl, rfl⟩)
                | (go_at_call 18; refine HAF.out.mono ?_; rintro e w1 ⟨rfl, k1, hw1⟩))
              go_meet
              exact ⟨rfl, below_drewN (Below.refl _ _) _⟩
            · have q3 : 2 * (es.length : Int) ≤ x := by omega
              clear q1
              go_wp2_with (first
                | (go_at_call 16; refine HFR.out.mono ?_; rintro e w1 ⟨rfl, rfl⟩)
                | (go_at_call 17; refine HTO.out.mono ?_; rintro e w1 ⟨rfl, rfl⟩)
                | (go_at_call 18; refine HAF.out.mono ?_; rintro e w1 ⟨rfl, k1, hw1⟩))
              go_meet
              exact ⟨rfl, below_drewN (Below.refl _ _) _⟩
        case rest =>
          obtain ⟨rfl, hb2⟩ := hcut
          have HB2 := Nu.hid (HB1.out.trans (hb2.mono HB1.out.size))
          have HG2 := Nu.hid ((hb2.block _ (by omega)).trans HG1.out)
          clear hb2 y0 y1 hc1 HG1 HB1
          go_wp2
          go_loopw [9] (fun cv wt => ∃ j : Nat, j ≤ ln ∧ cv = .int .i64 j ∧ wt.heap[w.heap.size]? = some (.cells #[.int .i64 (n : Int), .slice ao es.length ca] 24 (0, 0)) ∧ Below w.heap.size w wt) (fun cv _ => ln - (intOf cv).toNat)
          case atStart => exact ⟨0, Nat.zero_le _, rfl, HG2.out, HB2.out⟩
          case round =>
            obtain ⟨j, hj, rfl, hg, hb⟩ := hrel
            have hsgj := lt_of_block hg
            have HG := Nu.hid hg
            have HB := Nu.hid hb
            by_cases hlt : j < ln ∧ j < 60
            · obtain ⟨g1, g2⟩ := hlt
              have hj0 : (0 : Int) ≤ (j : Int) := by omega
              have hjl : (j : Int) < (ln : Int) := by omega
              have hj6 : (j : Int) < 60 := by omega
              obtain ⟨y, hy⟩ : ∃ y, zs[j]? = some y := ⟨_, List.getElem?_eq_getElem (by omega)⟩
              obtain ⟨b', o', e', hcj⟩ := (HZ.out.later hb) j y hy
              cases e'
              have hblj := block_lt_of_cell hcj
              obtain ⟨r, hr⟩ := Cs.IsHalf.ex es x y
              have HHF := Nu.hid (half_by HV.out hr (HADJ.out wr hb))
              have hrf : ∀ W, Below w.heap.size w W → Calls Try.prog 34 #[.agg #[.int .i64 (n : Int), .slice ao es.length ca], .int .i64 x, .int .i64 y] W fun e w' => e = .returned (.int .i64 r) ∧ Below W.heap.size W w' := fun W hW => r4half_by HV.out hr (HE.out.later hW)
              have HRF := Nu.hid hrf
              have hrr : r = -1 ∨ 0 ≤ r := by
                rcases hr with ⟨j', _, _, _, rfl⟩ | ⟨rfl, _⟩
                · exact .inr (by omega)
                · exact .inl rfl
              have HRR := Nu.hid hrr
              clear hg hb hy hr hrf hrr
              obtain ⟨rm, hrm⟩ : ∃ rm, rm = (if 0 ≤ r then r else 0) := ⟨_, rfl⟩
              obtain ⟨rb, hrb⟩ : ∃ rb, rb = decide (0 ≤ r) := ⟨_, rfl⟩
              rw [← hrm, ← hrb] at HHF
              have HRM := Nu.hid hrm
              have HRB := Nu.hid hrb
              clear hrm hrb
              go_wp2_with (go_at_call 14; refine HHF.out.mono ?_; rintro e w1 ⟨rfl, hb1⟩; refine Hid.out ?_)
              refine Nu.hid ?_
              have HB1 := Nu.hid (HB.out.trans (hb1.mono HB.out.size))
              have HG1 := Nu.hid ((hb1.block _ hsgj).trans HG.out)
              have hs1 := hb1.size
              have hc1 := (hb1.cell (p := ⟨b, o + j, none⟩) hblj).trans hcj
              obtain ⟨y0, y1, -⟩ := pair_cells HG1.out
              have hS : ∀ V, Below w1.heap.size w1 V → (V.cell? ⟨w.heap.size, 0, none⟩ = some (.int .i64 (n : Int)) ∧ V.cell? ⟨w.heap.size, 1, none⟩ = some (.slice ao es.length ca) ∧ V.cell? ⟨b, o + j, none⟩ = some (.int .i64 y) ∧ Below w1.heap.size w1 V) := fun V hb =>
                ⟨(hb.cell (p := ⟨w.heap.size, 0, none⟩) (by show w.heap.size < _; omega)).trans y0, (hb.cell (p := ⟨w.heap.size, 1, none⟩) (by show w.heap.size < _; omega)).trans y1, (hb.cell (p := ⟨b, o + j, none⟩) (by show b < _; omega)).trans hc1, hb⟩
              have HS := Nu.hid hS
              have hbd : Below w1.heap.size w1 w1.drew := (Below.refl _ _).drew
              have hrf1 : ∀ V, Below w1.heap.size w1 V → Calls Try.prog 34 #[.agg #[.int .i64 (n : Int), .slice ao es.length ca], .int .i64 x, .int .i64 y] V fun e w' => e = .returned (.int .i64 r) ∧ Below V.heap.size V w' := fun V hb => HRF.out V (HB1.out.trans (hb.mono HB1.out.size))
              have HRF1 := Nu.hid hrf1
              clear hb1 hcj hS hrf1 HHF HRF HB HG
              go_wp2_with fail
              go_region_held3 (fun V => V.cell? ⟨w.heap.size, 0, none⟩ = some (.int .i64 (n : Int)) ∧ V.cell? ⟨w.heap.size, 1, none⟩ = some (.slice ao es.length ca) ∧ V.cell? ⟨b, o + j, none⟩ = some (.int .i64 y) ∧ Below w1.heap.size w1 V)
                (exact HS.out _ (by first | assumption | exact hbd))
                ((go_at_call 34; refine (HRF1.out _ (by first | assumption | exact hbd)).mono ?_; rintro e w2 ⟨rfl, hbs⟩; have hbz : Below w1.heap.size w1 w2 := Below.trans (by first | assumption | exact hbd) (hbs.mono (Below.size (by first | assumption | exact hbd)))))
              have HB3 := Nu.hid (HB1.out.trans (hbz.mono HB1.out.size))
              have HG3 := Nu.hid ((hbz.block _ (by omega)).trans HG1.out)
              clear hbz hbs y0 y1 hc1 hbd HRF1 HS
              rcases HRR.out with hr1 | hr1
              · have e1 : rm = 0 := by rw [HRM.out, if_neg (by omega)]
                have e2 : rb = false := by rw [HRB.out]; exact decide_eq_false (by omega)
                subst e1 e2 hr1
                go_wp2
                go_roundw
                case rel => exact ⟨j + 1, by omega, by go_num, HG3.out, HB3.out⟩
                case measure => simp [intOf]; omega
              · have e1 : rm = r := by rw [HRM.out, if_pos hr1]
                have e2 : rb = true := by rw [HRB.out]; exact decide_eq_true hr1
                subst e1 e2
                have e3 : max rm 0 = rm := by omega
                have e4 : (rm != rm) = false := by simp
                go_wp2
                go_roundw
                case rel => exact ⟨j + 1, by omega, by go_num, HG3.out, HB3.out⟩
                case measure => simp [intOf]; omega
            · clear hg hb
              have hend : ¬ ((j : Int) < (ln : Int)) ∨ ((j : Int) < (ln : Int) ∧ ¬ ((j : Int) < 60)) := by omega
              clear hlt
              rcases hend with q1 | ⟨q1, q2⟩
              · go_wp2
                go_roundw
                case rel => exact ⟨i + 1, by omega, by go_num, HG.out, HB.out⟩
                case measure => simp [intOf]; omega
              · go_wp2
                go_roundw
                case rel => exact ⟨i + 1, by omega, by go_num, HG.out, HB.out⟩
                case measure => simp [intOf]; omega
    · clear hg hb
      have hend : ¬ ((i : Int) < (ln : Int)) ∨ ((i : Int) < (ln : Int) ∧ ¬ ((i : Int) < 60)) := by omega
      clear hlt
      rcases hend with q1 | ⟨q1, q2⟩
      · go_wp2
        go_ret
        exact ⟨rfl, HB.out⟩
      · go_wp2
        go_ret
        exact ⟨rfl, HB.out⟩

end Go.Proofs.Ytlnkcebfnamdcaa
