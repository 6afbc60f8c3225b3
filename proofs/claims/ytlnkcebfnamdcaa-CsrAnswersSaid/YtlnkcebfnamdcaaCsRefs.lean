/-
  The document's own From, To and Half of graphs that are valid.
-/
import Derived.Test.YtlnkcebfnamdcaaCsGet2
import Derived.Test.YtlnkcebfnamdcaaSiValid
namespace Go.Proofs.Ytlnkcebfnamdcaa
open Go.RowKit Go.Sort

/-- A half-edge's edge. -/
theorem half_edge {n : Nat} {es : List (Int × Int)} (hv : Si.Val n es) {j : Nat} (hj : j < 2 * es.length) : ∃ e, es[j / 2]? = some e ∧ Si.ok n e ∧ ((j % 2 = 0 ∧ (Cs.fr es j : Int) = e.1 ∧ (Cs.to es j : Int) = e.2) ∨ (j % 2 = 1 ∧ (Cs.fr es j : Int) = e.2 ∧ (Cs.to es j : Int) = e.1)) := by
  obtain ⟨e, he⟩ : ∃ e, es[j / 2]? = some e := ⟨_, List.getElem?_eq_getElem (by omega)⟩
  have hok := hv.each _ e he
  refine ⟨e, he, hok, ?_⟩
  unfold Si.ok at hok
  rcases Nat.mod_two_eq_zero_or_one j with h | h
  · left
    obtain ⟨g1, g2⟩ := Cs.fr_even he
    rw [show 2 * (j / 2) = j by omega] at g1 g2
    exact ⟨h, by omega, by omega⟩
  · right
    obtain ⟨g1, g2⟩ := Cs.fr_odd he
    rw [show 2 * (j / 2) + 1 = j by omega] at g1 g2
    exact ⟨h, by omega, by omega⟩

set_option maxRecDepth 100000 in
set_option maxHeartbeats 4000000 in
theorem r4from_any (n : Nat) (ao : Option Addr) (ca : Nat) (es : List (Int × Int)) (j : Nat) (w : World) (he : EdgesAt w ao es) (hv : Si.Val n es) (hj : j < 2 * es.length) :
    Calls Try.prog 32 #[.agg #[.int .i64 (n : Int), .slice ao es.length ca], .int .i64 (j : Int)] w fun e w' => e = .returned (.int .i64 (Cs.fr es j : Int)) ∧ Below w.heap.size w w' := by
  have hb0 : Below w.heap.size w (w.alloc (.cells #[.int .i64 (n : Int), .slice ao es.length ca] 24)) := (Below.refl _ _).alloc (Nat.le_refl _) _
  have hfew := hv.few
  obtain ⟨e, hee, hok, hpar⟩ := half_edge hv hj
  obtain ⟨b, o, rfl, c0, c1⟩ := (he.later hb0) (j / 2) e hee
  obtain ⟨jh, hjh⟩ : ∃ jh, jh = j / 2 := ⟨_, rfl⟩
  rw [← hjh] at c0 c1 hee
  have hj0 : (0 : Int) ≤ (j : Int) := by omega
  have htd : (j : Int).tdiv 2 = (jh : Int) := by rw [Int.tdiv_eq_ediv_of_nonneg hj0]; omega
  have htd2 : (j : Int) / 2 = (jh : Int) := by omega
  have hjd : j / 2 = jh := hjh.symm
  have hj2 : (0 : Int) ≤ (jh : Int) := by omega
  have hj3 : (jh : Int) < (es.length : Int) := by omega
  have HB0 := Nu.hid hb0
  rcases hpar with ⟨hm, hf, ht⟩ | ⟨hm, hf, ht⟩
  · have hm1 : (j : Int).tmod 2 = 0 := by rw [Int.tmod_eq_emod_of_nonneg hj0]; omega
    have hm2 : (j : Int) % 2 = 0 := by omega
    rw [hf]
    clear he hv hok hee hb0 hf ht hjh hm
    go_enter Try.func32, Try.ntmps32
    go_wp2
    go_ret
    exact ⟨rfl, HB0.out⟩
  · have hm1 : (j : Int).tmod 2 = 1 := by rw [Int.tmod_eq_emod_of_nonneg hj0]; omega
    have hm2 : (j : Int) % 2 = 1 := by omega
    rw [hf]
    clear he hv hok hee hb0 hf ht hjh hm
    go_enter Try.func32, Try.ntmps32
    go_wp2
    go_ret
    exact ⟨rfl, HB0.out⟩

set_option maxRecDepth 100000 in
set_option maxHeartbeats 4000000 in
theorem r4to_any (n : Nat) (ao : Option Addr) (ca : Nat) (es : List (Int × Int)) (j : Nat) (w : World) (he : EdgesAt w ao es) (hv : Si.Val n es) (hj : j < 2 * es.length) :
    Calls Try.prog 15 #[.agg #[.int .i64 (n : Int), .slice ao es.length ca], .int .i64 (j : Int)] w fun e w' => e = .returned (.int .i64 (Cs.to es j : Int)) ∧ Below w.heap.size w w' := by
  have hb0 : Below w.heap.size w (w.alloc (.cells #[.int .i64 (n : Int), .slice ao es.length ca] 24)) := (Below.refl _ _).alloc (Nat.le_refl _) _
  have hfew := hv.few
  have hxt := Cs.xor_twin j (by omega)
  have hfr := r4from_any n ao ca es (Cs.twin j) _ (he.later hb0) hv (Cs.twin_lt hj)
  rw [Cs.fr_twin] at hfr
  have HFR := Nu.hid hfr
  have HB0 := Nu.hid hb0
  clear he hv hb0 hfr
  go_enter Try.func15, Try.ntmps15
  go_wp2_with (go_at_call 32; refine HFR.out.mono ?_; rintro e w1 ⟨rfl, hb1⟩)
  go_ret
  exact ⟨rfl, HB0.out.trans (hb1.mono HB0.out.size)⟩

/-- The half-edge from x to y, as the document finds it. -/
def Cs.IsHalf (es : List (Int × Int)) (x y r : Int) : Prop := (∃ j : Nat, j < 2 * es.length ∧ (Cs.fr es j : Int) = x ∧ (Cs.to es j : Int) = y ∧ r = (j : Int)) ∨ (r = -1 ∧ ∀ j : Nat, j < 2 * es.length → ¬ ((Cs.fr es j : Int) = x ∧ (Cs.to es j : Int) = y))

set_option maxRecDepth 100000 in
set_option maxHeartbeats 4000000 in
theorem r4half_any (n : Nat) (ao : Option Addr) (ca : Nat) (es : List (Int × Int)) (x y : Int) (w : World) (he : EdgesAt w ao es) (hv : Si.Val n es) :
    Calls Try.prog 34 #[.agg #[.int .i64 (n : Int), .slice ao es.length ca], .int .i64 x, .int .i64 y] w fun e w' => ∃ r, e = .returned (.int .i64 r) ∧ Cs.IsHalf es x y r ∧ Below w.heap.size w w' := by
  have hfew := hv.few
  have HE := Nu.hid he
  have HV := Nu.hid hv
  clear he hv
  go_enter Try.func34, Try.ntmps34
  go_wp2
  go_loopw [7] (fun cv wr => ∃ k : Nat, k ≤ es.length ∧ cv = .int .i64 k ∧ (∀ j : Nat, j < 2 * k → ¬ ((Cs.fr es j : Int) = x ∧ (Cs.to es j : Int) = y)) ∧ wr.heap[w.heap.size]? = some (.cells #[.int .i64 (n : Int), .slice ao es.length ca] 24 (0, 0)) ∧ Below w.heap.size w wr) (fun cv _ => es.length - (intOf cv).toNat)
  case atStart => exact ⟨0, Nat.zero_le _, rfl, fun j hj => (by omega), heap_alloc_new w _, (Below.refl _ _).alloc (Nat.le_refl _) _⟩
  case round =>
    obtain ⟨k, hk, rfl, hno, hg, hb⟩ := hrel
    obtain ⟨x0, x1, -⟩ := pair_cells hg
    have HNO := Nu.hid hno
    have HG := Nu.hid hg
    have HB := Nu.hid hb
    clear hno hg
    by_cases hlt : k < es.length
    · have hlti : (k : Int) < (es.length : Int) := by omega
      have hk0 : (0 : Int) ≤ (k : Int) := by omega
      obtain ⟨e, hee⟩ : ∃ e, es[k]? = some e := ⟨_, List.getElem?_eq_getElem hlt⟩
      obtain ⟨b, o, rfl, c0, c1⟩ := (HE.out.later hb) k e hee
      have hok := HV.out.each k e hee
      unfold Si.ok at hok
      obtain ⟨g1, g2⟩ := Cs.fr_even hee
      obtain ⟨g3, g4⟩ := Cs.fr_odd hee
      have h1 : (Cs.fr es (2 * k) : Int) = e.1 ∧ (Cs.to es (2 * k) : Int) = e.2 := by omega
      have h2 : (Cs.fr es (2 * k + 1) : Int) = e.2 ∧ (Cs.to es (2 * k + 1) : Int) = e.1 := by omega
      have H1 := Nu.hid h1
      have H2 := Nu.hid h2
      clear hee hok g1 g2 g3 g4 h1 h2 hb
      by_cases q1 : e.1 = x ∧ e.2 = y
      · have t1 : (e.1 == x) = true := by simp [q1.1]
        have t2 : (e.2 == y) = true := by simp [q1.2]
        have HQ1 := Nu.hid q1
        clear q1
        go_wp2
        go_ret
        exact ⟨_, rfl, .inl ⟨2 * k, by omega, H1.out.1.trans HQ1.out.1, H1.out.2.trans HQ1.out.2, by omega⟩, HB.out⟩
      · by_cases q2 : e.1 = y ∧ e.2 = x
        · have HQ2 := Nu.hid q2
          have HQ1 := Nu.hid q1
          have t3 : (e.1 == y) = true := by simp [q2.1]
          have t4 : (e.2 == x) = true := by simp [q2.2]
          by_cases q3 : e.1 = x
          · have t1 : (e.1 == x) = true := by simp [q3]
            have t2 : (e.2 == y) = false := by simp; intro h; exact q1 ⟨q3, h⟩
            clear q1 q2 q3
            go_wp2
            go_ret
            exact ⟨_, rfl, .inl ⟨2 * k + 1, by omega, H2.out.1.trans HQ2.out.2, H2.out.2.trans HQ2.out.1, by omega⟩, HB.out⟩
          · have t1 : (e.1 == x) = false := by simp [q3]
            clear q1 q2 q3
            go_wp2
            go_ret
            exact ⟨_, rfl, .inl ⟨2 * k + 1, by omega, H2.out.1.trans HQ2.out.2, H2.out.2.trans HQ2.out.1, by omega⟩, HB.out⟩
        · have hno2 : ∀ j : Nat, j < 2 * (k + 1) → ¬ ((Cs.fr es j : Int) = x ∧ (Cs.to es j : Int) = y) := fun j hj hc => by
            by_cases e1 : j = 2 * k
            · subst e1
              exact q1 ⟨H1.out.1.symm.trans hc.1, H1.out.2.symm.trans hc.2⟩
            · by_cases e2 : j = 2 * k + 1
              · subst e2
                exact q2 ⟨H2.out.2.symm.trans hc.2, H2.out.1.symm.trans hc.1⟩
              · exact HNO.out j (by omega) hc
          have HNO2 := Nu.hid hno2
          have hq3 : (e.1 = x ∧ ¬ e.2 = y) ∨ ¬ e.1 = x := by
            by_cases q3 : e.1 = x
            · exact .inl ⟨q3, fun h => q1 ⟨q3, h⟩⟩
            · exact .inr q3
          have hq4 : (e.1 = y ∧ ¬ e.2 = x) ∨ ¬ e.1 = y := by
            by_cases q3 : e.1 = y
            · exact .inl ⟨q3, fun h => q2 ⟨q3, h⟩⟩
            · exact .inr q3
          clear q1 q2 hno2
          rcases hq3 with ⟨r1, r2⟩ | r1 <;> rcases hq4 with ⟨r3, r4⟩ | r3
          · have t1 : (e.1 == x) = true := by simp [r1]
            have t2 : (e.2 == y) = false := by simp [r2]
            have t3 : (e.1 == y) = true := by simp [r3]
            have t4 : (e.2 == x) = false := by simp [r4]
            clear r1 r2 r3 r4
            go_wp2
            go_roundw
            case rel => exact ⟨k + 1, by omega, by go_num, HNO2.out, HG.out, HB.out⟩
            case measure => simp [intOf]; omega
          · have t1 : (e.1 == x) = true := by simp [r1]
            have t2 : (e.2 == y) = false := by simp [r2]
            have t3 : (e.1 == y) = false := by simp [r3]
            clear r1 r2 r3
            go_wp2
            go_roundw
            case rel => exact ⟨k + 1, by omega, by go_num, HNO2.out, HG.out, HB.out⟩
            case measure => simp [intOf]; omega
          · have t1 : (e.1 == x) = false := by simp [r1]
            have t3 : (e.1 == y) = true := by simp [r3]
            have t4 : (e.2 == x) = false := by simp [r4]
            clear r1 r3 r4
            go_wp2
            go_roundw
            case rel => exact ⟨k + 1, by omega, by go_num, HNO2.out, HG.out, HB.out⟩
            case measure => simp [intOf]; omega
          · have t1 : (e.1 == x) = false := by simp [r1]
            have t3 : (e.1 == y) = false := by simp [r3]
            clear r1 r3
            go_wp2
            go_roundw
            case rel => exact ⟨k + 1, by omega, by go_num, HNO2.out, HG.out, HB.out⟩
            case measure => simp [intOf]; omega
    · have hd : ¬ ((k : Int) < (es.length : Int)) := by omega
      obtain rfl : k = es.length := by omega
      clear hb
      go_wp2
      go_ret
      exact ⟨-1, rfl, .inr ⟨rfl, HNO.out⟩, HB.out⟩

end Go.Proofs.Ytlnkcebfnamdcaa
