/-
  The document's own Half.
-/
import Derived.Test.YtloabkgojopeaaaMg10
import Derived.Test.YtloabkgojopeaaaRoF
namespace Go.Proofs.Ytloabkgojopeaaa
open Go.RowKit Go.Sort

set_option maxRecDepth 100000 in
set_option maxHeartbeats 8000000 in
theorem rhalf_any (n : Nat) (ao : Option Addr) (ca : Nat) (es : List (Int × Int)) (u : Nat) (x : Int) (w : World) (he : EdgesAt w ao es) (hv : Si.Val n es) :
    Calls Try.prog 42 #[.agg #[.int .i64 (n : Int), .slice ao es.length ca], .int .i64 (u : Int), .int .i64 x] w fun e w' => e = .returned (.int .i64 (Ro.hl es u x)) ∧ Below w.heap.size w w' := by
  have hb0 : Below w.heap.size w (w.alloc (.cells #[.int .i64 (n : Int), .slice ao es.length ca] 30)) := (Below.refl _ _).alloc (Nat.le_refl _) _
  have hfew := hv.few
  have HE := Nu.hid he
  have HVAL := Nu.hid hv
  have HB0 := Nu.hid hb0
  have HG0 : Hid ((w.alloc (.cells #[.int .i64 (n : Int), .slice ao es.length ca] 30)).heap[w.heap.size]? = some (.cells #[.int .i64 (n : Int), .slice ao es.length ca] 30 (0, 0))) := heap_alloc_new w _
  have hmul : IntKind.i64.wrap (2 * (es.length : Int)) = 2 * (es.length : Int) := by rw [IntKind.wrap_i64]; omega
  clear he hv hb0
  go_enter Try.func42, Try.ntmps42
  go_wp2
  go_loopw [7] (fun c6 wr => ∃ j : Nat, j ≤ 2 * es.length ∧ c6 = .int .i64 (j : Int) ∧ Ro.half es u x j = none ∧ wr.heap[w.heap.size]? = some (.cells #[.int .i64 (n : Int), .slice ao es.length ca] 30 (0, 0)) ∧ Below w.heap.size w wr) (fun c6 _ => 2 * es.length - (intOf c6).toNat)
  case atStart => exact ⟨0, Nat.zero_le _, rfl, rfl, HG0.out, HB0.out⟩
  case round =>
    obtain ⟨j, hj, rfl, hno, hg, hb⟩ := hrel
    obtain ⟨g0, g1, -⟩ := pair_cells hg
    have HG := Nu.hid hg
    have HB := Nu.hid hb
    have HNO := Nu.hid hno
    clear hg hb hno
    by_cases hlt : j < 2 * es.length
    · have hlti : (j : Int) < 2 * (es.length : Int) := by omega
      have HF := Nu.hid (r11from_any n ao ca es j wr (HE.out.later HB.out) HVAL.out hlt)
      by_cases hf : Cs.fr es j = u
      · have t1 : ((Cs.fr es j : Int) == (u : Int)) = true := by simp; omega
        have HFE := Nu.hid hf
        clear hf
        go_wp2_with (go_at_call 28; refine HF.out.mono ?_; rintro e w2 ⟨rfl, hb2⟩; refine Hid.out ?_)
        refine Nu.hid ?_
        have hG2 := (hb2.block _ (lt_of_block HG.out)).trans HG.out
        have HB2 := Nu.hid (HB.out.trans (hb2.mono HB.out.size))
        clear g0 g1
        obtain ⟨g0, g1, -⟩ := pair_cells hG2
        have HG2 := Nu.hid hG2
        have HT := Nu.hid (r11to_any n ao ca es j w2 (HE.out.later HB2.out) HVAL.out hlt)
        clear hb2 hG2
        by_cases ht : (Cs.to es j : Int) = x
        · have t2 : ((Cs.to es j : Int) == x) = true := by simp [ht]
          have HX := Nu.hid (Ro.hl_of HVAL.out hlt HFE.out ht)
          clear ht
          go_wp2_with (go_at_call 41; refine HT.out.mono ?_; rintro e w3 ⟨rfl, hb3⟩; refine Hid.out ?_)
          refine Nu.hid ?_
          have HB3 := Nu.hid (HB2.out.trans (hb3.mono HB2.out.size))
          clear hb3 g0 g1
          go_wp2
          go_ret
          exact ⟨by rw [(Ro.hl_lv HX.out).1]; rfl, HB3.out⟩
        · have t2 : ((Cs.to es j : Int) == x) = false := beq_false_of_ne ht
          have HN2 : Hid (Ro.half es u x (j + 1) = none) := by
            show Ro.half es u x (j + 1) = none
            unfold Ro.half
            rw [HNO.out]
            exact if_neg (fun h => ht h.2)
          clear ht
          go_wp2_with (go_at_call 41; refine HT.out.mono ?_; rintro e w3 ⟨rfl, hb3⟩; refine Hid.out ?_)
          refine Nu.hid ?_
          have HG3 := Nu.hid ((hb3.block _ (lt_of_block HG2.out)).trans HG2.out)
          have HB3 := Nu.hid (HB2.out.trans (hb3.mono HB2.out.size))
          clear hb3 g0 g1
          go_wp2
          go_roundw
          case rel => exact ⟨j + 1, by omega, by go_num, HN2.out, HG3.out, HB3.out⟩
          case measure => simp [intOf]; omega
      · have t1 : ((Cs.fr es j : Int) == (u : Int)) = false := by simp; omega
        have HN2 : Hid (Ro.half es u x (j + 1) = none) := by
          show Ro.half es u x (j + 1) = none
          unfold Ro.half
          rw [HNO.out]
          exact if_neg (fun h => hf h.1)
        clear hf
        go_wp2_with (go_at_call 28; refine HF.out.mono ?_; rintro e w2 ⟨rfl, hb2⟩; refine Hid.out ?_)
        refine Nu.hid ?_
        have HG2 := Nu.hid ((hb2.block _ (lt_of_block HG.out)).trans HG.out)
        have HB2 := Nu.hid (HB.out.trans (hb2.mono HB.out.size))
        clear hb2 g0 g1
        go_wp2
        go_roundw
        case rel => exact ⟨j + 1, by omega, by go_num, HN2.out, HG2.out, HB2.out⟩
        case measure => simp [intOf]; omega
    · have hlti : ¬ (j : Int) < 2 * (es.length : Int) := by omega
      obtain rfl : j = 2 * es.length := by omega
      go_wp2
      go_ret
      exact ⟨by rw [(Ro.hl_no HNO.out).1]; rfl, HB.out⟩

end Go.Proofs.Ytloabkgojopeaaa
