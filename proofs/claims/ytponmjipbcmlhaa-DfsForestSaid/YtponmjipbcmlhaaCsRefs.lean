/-
  The document's own From and To of graphs that are valid.
-/
import Derived.Test.YtponmjipbcmlhaaCsGet2
import Derived.Test.YtponmjipbcmlhaaSiValid
namespace Go.Proofs.Ytponmjipbcmlhaa
open Go.RowKit Go.Sort

/-- A half-edge's edge. -/
theorem half_edge {n : Nat} {es : List (Int × Int)} (hv : Si.Val n es) {j : Nat} (hj : j < 2 * es.length) : ∃ e, es[j / 2]? = some e ∧ Si.ok n e ∧ ((j % 2 = 0 ∧ (Cs.fr es j : Int) = e.1 ∧ (Cs.to es j : Int) = e.2) ∨ (j % 2 = 1 ∧ (Cs.fr es j : Int) = e.2 ∧ (Cs.to es j : Int) = e.1)) := by
  obtain ⟨e, he⟩ : ∃ e, es[j / 2]? = some e := ⟨_, List.getElem?_eq_getElem (by omega)⟩
  have hok := hv.each _ e he
  refine ⟨e, he, hok, ?_⟩
  unfold Si.ok at hok
  rcases Nat.mod_two_eq_zero_or_one j with h | h
  · left
    obtain ⟨g1, g2⟩ := Cs.fr_even he
    rw [show 2 * (j / 2) = j by omega] at g1 g2
    exact ⟨h, by omega, by omega⟩
  · right
    obtain ⟨g1, g2⟩ := Cs.fr_odd he
    rw [show 2 * (j / 2) + 1 = j by omega] at g1 g2
    exact ⟨h, by omega, by omega⟩

set_option maxRecDepth 100000 in
set_option maxHeartbeats 4000000 in
theorem r4from_any (n : Nat) (ao : Option Addr) (ca : Nat) (es : List (Int × Int)) (j : Nat) (w : World) (he : EdgesAt w ao es) (hv : Si.Val n es) (hj : j < 2 * es.length) :
    Calls Try.prog 49 #[.agg #[.int .i64 (n : Int), .slice ao es.length ca], .int .i64 (j : Int)] w fun e w' => e = .returned (.int .i64 (Cs.fr es j : Int)) ∧ Below w.heap.size w w' := by
  have hb0 : Below w.heap.size w (w.alloc (.cells #[.int .i64 (n : Int), .slice ao es.length ca] 24)) := (Below.refl _ _).alloc (Nat.le_refl _) _
  have hfew := hv.few
  obtain ⟨e, hee, hok, hpar⟩ := half_edge hv hj
  obtain ⟨b, o, rfl, c0, c1⟩ := (he.later hb0) (j / 2) e hee
  obtain ⟨jh, hjh⟩ : ∃ jh, jh = j / 2 := ⟨_, rfl⟩
  rw [← hjh] at c0 c1 hee
  have hj0 : (0 : Int) ≤ (j : Int) := by omega
  have htd : (j : Int).tdiv 2 = (jh : Int) := by rw [Int.tdiv_eq_ediv_of_nonneg hj0]; omega
  have htd2 : (j : Int) / 2 = (jh : Int) := by omega
  have hjd : j / 2 = jh := hjh.symm
  have hj2 : (0 : Int) ≤ (jh : Int) := by omega
  have hj3 : (jh : Int) < (es.length : Int) := by omega
  have HB0 := Nu.hid hb0
  rcases hpar with ⟨hm, hf, ht⟩ | ⟨hm, hf, ht⟩
  · have hm1 : (j : Int).tmod 2 = 0 := by rw [Int.tmod_eq_emod_of_nonneg hj0]; omega
    have hm2 : (j : Int) % 2 = 0 := by omega
    rw [hf]
    clear he hv hok hee hb0 hf ht hjh hm
    go_enter Try.func49, Try.ntmps49
    go_wp2
    go_ret
    exact ⟨rfl, HB0.out⟩
  · have hm1 : (j : Int).tmod 2 = 1 := by rw [Int.tmod_eq_emod_of_nonneg hj0]; omega
    have hm2 : (j : Int) % 2 = 1 := by omega
    rw [hf]
    clear he hv hok hee hb0 hf ht hjh hm
    go_enter Try.func49, Try.ntmps49
    go_wp2
    go_ret
    exact ⟨rfl, HB0.out⟩

set_option maxRecDepth 100000 in
set_option maxHeartbeats 4000000 in
theorem r4to_any (n : Nat) (ao : Option Addr) (ca : Nat) (es : List (Int × Int)) (j : Nat) (w : World) (he : EdgesAt w ao es) (hv : Si.Val n es) (hj : j < 2 * es.length) :
    Calls Try.prog 42 #[.agg #[.int .i64 (n : Int), .slice ao es.length ca], .int .i64 (j : Int)] w fun e w' => e = .returned (.int .i64 (Cs.to es j : Int)) ∧ Below w.heap.size w w' := by
  have hb0 : Below w.heap.size w (w.alloc (.cells #[.int .i64 (n : Int), .slice ao es.length ca] 24)) := (Below.refl _ _).alloc (Nat.le_refl _) _
  have hfew := hv.few
  have hxt := Cs.xor_twin j (by omega)
  have hfr := r4from_any n ao ca es (Cs.twin j) _ (he.later hb0) hv (Cs.twin_lt hj)
  rw [Cs.fr_twin] at hfr
  have HFR := Nu.hid hfr
  have HB0 := Nu.hid hb0
  clear he hv hb0 hfr
  go_enter Try.func42, Try.ntmps42
  go_wp2_with (go_at_call 49; refine HFR.out.mono ?_; rintro e w1 ⟨rfl, hb1⟩)
  go_ret
  exact ⟨rfl, HB0.out.trans (hb1.mono HB0.out.size)⟩

end Go.Proofs.Ytponmjipbcmlhaa
