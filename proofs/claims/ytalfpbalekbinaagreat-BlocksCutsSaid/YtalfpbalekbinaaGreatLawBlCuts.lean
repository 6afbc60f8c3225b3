/-
  Proved: for every graph the law BlocksCuts answers true, and the graph reads afterwards as before. No condition.
-/
import Derived.Test.YtalfpbalekbinaaGreatMg32
import Derived.Test.YtalfpbalekbinaaGreatMg34
import Derived.Test.YtalfpbalekbinaaGreatMg35
namespace Go.Proofs.YtalfpbalekbinaaGreat
open Go.ChangeShapes Go.WideShapes Go.ChangeAt Go.RowKit

namespace Bl
theorem hit_yes {q : Nat → Bool} {n v : Nat} (hv : v < n) (h : q v = true) : (((List.range n).filter q).map fun v : Nat => (v : Int))[Co.cntTo q v]? = some (v : Int) := by
  rw [List.getElem?_map, filter_get q hv h]
  rfl
theorem hit_no {q : Nat → Bool} {n v : Nat} (h : q v = false) {y : Int} (hy : (((List.range n).filter q).map fun v : Nat => (v : Int))[Co.cntTo q v]? = some y) : y ≠ (v : Int) := fun e => by
  rw [List.getElem?_map] at hy
  cases ht : ((List.range n).filter q)[Co.cntTo q v]? with
  | none => rw [ht] at hy; cases hy
  | some t =>
    rw [ht] at hy
    have e1 : (t : Int) = y := Option.some.inj hy
    have e2 : t = v := by omega
    rw [e2] at ht
    have := (filter_at _ _ _ _ ht).2.2
    rw [h] at this
    cases this
open Df Lo
section
variable {n : Nat} {es : List (Int × Int)} {s : St} {v : Nat}
theorem cnt_ofG (js : List (Int × Int)) : Co.cnt n (Co.ofG n js) = cnt (fun a => Co.ofG n js a = a) n := by
  unfold Co.cnt
  rw [cntTo_cnt]
  exact cnt_congr fun a _ => by simp
theorem now_wo (hv : Si.Val n es) (h : VF n es s) (hvn : v < n) : Co.cnt n (Co.ofG n (woE es (v : Int))) = Co.cnt n (Co.ofG n es) + inB es (no9 es) (v : Int) (ct9 es) := by
  rw [cnt_ofG, cnt_ofG, in_heads hv h]
  exact wo_count hv h hvn (Co.ofG_gen n es) (Co.ofG_gen n _)
theorem now_less (hv : Si.Val n es) (h : VF n es s) {i : Nat} (hi : i < es.length) : Co.cnt n (Co.ofG n es) < Co.cnt n (Co.ofG n (es.eraseIdx i)) ↔ lone (no9 es) i es.length = true := by
  rw [cnt_ofG, cnt_ofG]
  exact less_count hv h hi (Co.ofG_gen n es) (Co.ofG_gen n _)
open Classical in
theorem unmet_in (hm : Co.met es v = false) (c : Nat) : inB es (no9 es) (v : Int) c = 0 := by
  unfold inB
  have : ∀ k, hitB es (no9 es) (v : Int) k es.length = false := fun k => by
    unfold hitB
    refine decide_eq_false fun ⟨i, p, h1, h2, _, h4⟩ => ?_
    unfold Co.met at hm
    rw [List.any_eq_false] at hm
    exact hm p (List.mem_of_getElem? h2) (by simpa using h4)
  induction c with
  | zero => rfl
  | succ c ih => rw [Co.cntTo, ih, this]; rfl
theorem wo_val (hv : Si.Val n es) : Si.Val n (woE es (v : Int)) := by
  refine ⟨hv.lo, hv.hi, Nat.le_trans (List.length_filter_le _ _) hv.few, fun j p hp => ?_, fun j p q hp hq => ?_⟩
  · have := List.mem_of_getElem? hp
    obtain ⟨k, hk⟩ := List.getElem?_of_mem (List.mem_filter.1 this).1
    exact hv.each k p hk
  · have hpw : (woE es (v : Int)).Pairwise Si.lt := List.Pairwise.filter _ (List.pairwise_iff_getElem.2 fun i j hi hj hij => hv.mono j i _ _ hij (List.getElem?_eq_getElem hi) (List.getElem?_eq_getElem hj))
    obtain ⟨h1, e1⟩ := List.getElem?_eq_some_iff.1 hp
    obtain ⟨h2, e2⟩ := List.getElem?_eq_some_iff.1 hq
    have := List.pairwise_iff_getElem.1 hpw j (j + 1) h1 h2 (by omega)
    rw [e1, e2] at this
    exact this
theorem less_val (hv : Si.Val n es) (i : Nat) : Si.Val n (es.eraseIdx i) := by
  refine ⟨hv.lo, hv.hi, Nat.le_trans (List.length_eraseIdx_le _ _) hv.few, fun j p hp => ?_, fun j p q hp hq => ?_⟩
  · obtain ⟨k, _, hk⟩ := List.mem_eraseIdx_iff_getElem?.1 (List.mem_of_getElem? hp)
    exact hv.each k p hk
  · have hpw : (es.eraseIdx i).Pairwise Si.lt := List.Pairwise.sublist (List.eraseIdx_sublist es i) (List.pairwise_iff_getElem.2 fun i j hi hj hij => hv.mono j i _ _ hij (List.getElem?_eq_getElem hi) (List.getElem?_eq_getElem hj))
    obtain ⟨h1, e1⟩ := List.getElem?_eq_some_iff.1 hp
    obtain ⟨h2, e2⟩ := List.getElem?_eq_some_iff.1 hq
    have := List.pairwise_iff_getElem.1 hpw j (j + 1) h1 h2 (by omega)
    rw [e1, e2] at this
    exact this
end
end Bl

namespace lawCuts
/-- The graph, its cuts, its bridges, its degrees. -/
structure Cu9 (w : World) (n : Int) (ao : Option Addr) (ca : Nat) (es : List (Int × Int)) (a3 : Option Addr) (L : List Int) (a5 : Option Addr) (B : List Int) (gd : Nat) (W : World) : Prop where
  g : Gr9 w n ao ca es W
  cu : IntsAt W a3 L
  br : IntsAt W a5 B
  dg : IntsBlk W gd (Si.degs n es)
theorem Cu9.later {w : World} {n : Int} {ao : Option Addr} {ca : Nat} {es : List (Int × Int)} {a3 : Option Addr} {L : List Int} {a5 : Option Addr} {B : List Int} {gd : Nat} {W W' : World} (h : Cu9 w n ao ca es a3 L a5 B gd W) (hb : Below W.heap.size W W') : Cu9 w n ao ca es a3 L a5 B gd W' :=
  ⟨h.g.later hb, h.cu.later hb, h.br.later hb, h.dg.later hb⟩
theorem comps_yes {n : Nat} {a : Option Addr} {c : Nat} {es : List (Int × Int)} {W : World} (he : EdgesAt W a es) (hv : Si.Val n es) : Calls Tryz.prog 9 #[.agg #[.int .i64 (n : Int), .slice a es.length c]] W fun e w' => ∃ ao k c, e = .returned (.tuple #[.slice ao k c, .int .i64 (Co.cnt n (Co.ofG n es) : Int), .int .i64 0]) ∧ Below W.heap.size W w' := (of_any n a c es W he (by have := hv.few; omega)).mono (by
  rintro e w' ⟨⟨m', v, h1, h2, h3, h4⟩ | ⟨h1, _⟩, hb⟩
  · obtain rfl : n = m' := by omega
    obtain ⟨ao, c, hv, -, -⟩ := h4.form
    subst hv
    exact ⟨ao, _, c, h3, hb⟩
  · rw [Si.valid_iff.2 hv] at h1
    cases h1)
/-- Of the walk that Cuts takes there is a forest. -/
theorem cuts_vf {n : Nat} {a : Option Addr} {c : Nat} {es : List (Int × Int)} {W : World} (he : EdgesAt W a es) (hv : Si.Val n es) : Calls Tryz.prog 5 #[.agg #[.int .i64 (n : Int), .slice a es.length c]] W fun e w' => ∃ ao c, e = .returned (.tuple #[.slice ao (Bl.cutsTo es (Bl.no9 es) (Bl.ct9 es) n).length c, .int .i64 0]) ∧ IntsAt w' ao (Bl.cutsTo es (Bl.no9 es) (Bl.ct9 es) n) ∧ (∃ s, Df.VF n es s) ∧ Below W.heap.size W w' := (pcuts9_yes n a c es W he hv).mono (by
  rintro e w' ⟨s, v, hvf, rfl, h2, h4⟩
  obtain ⟨k1, k2⟩ := Bl.no9_of (fun e he => Bl.m9_mB hv hvf (e := e) he)
  dsimp only at h2
  rw [k2, Bl.cutsTo_congr k1] at h2
  obtain ⟨ao, c, e1, h3, _⟩ := h2.form
  subst e1
  exact ⟨ao, c, rfl, h3, ⟨s, hvf⟩, h4⟩)
set_option maxRecDepth 100000 in
set_option maxHeartbeats 16000000 in
theorem walk (n : Int) (ao : Option Addr) (ca : Nat) (es : List (Int × Int)) (w : World) (_ : -9223372036854775808 ≤ n ∧ n ≤ 9223372036854775807) (hq : PairsIn w ao es.length ca es) (hle : es.length * 16 ≤ 140737488351232) :
    Calls Tryz.prog 3 #[.agg #[.int .i64 n, .slice ao es.length ca]] w fun e w' => e = .returned (.bool true) ∧ Below w.heap.size w w' := by
  have hG0 : Gr9 w n ao ca es _ := .start hq.hat
  have HG0 := Nu.hid hG0
  have hle' : es.length * 16 ≤ 140737488355328 := by omega
  have HRV : Hid (∀ W, EdgesAt W ao es → Calls Tryz.prog 8 #[.agg #[.int .i64 n, .slice ao es.length ca]] W fun e w' => e = .returned (.bool (Si.valid n es)) ∧ Below W.heap.size W w') := fun W h => rvalid_any n ao ca es W h (by omega)
  have HOB : Hid (∀ a c W, EdgesAt W a es → Calls Tryz.prog 7 #[.agg #[.int .i64 n, .slice a es.length c]] W (LiS (Bl.bs9 n es) W)) := fun a c W h => pbridges_is n a c es W h (by omega)
  cases hv : Si.valid n es with
  | false =>
    have HOC : Hid (∀ a c W, EdgesAt W a es → Calls Tryz.prog 5 #[.agg #[.int .i64 n, .slice a es.length c]] W (LiS (Bl.cu9 n es) W)) := fun a c W h => pcuts_is n a c es W h (by omega)
    rw [Bl.cu9_f hv] at HOC
    rw [Bl.bs9_f hv] at HOB
    rw [hv] at HRV
    clear hq hG0 hv
    go_enter Tryz.func3, Tryz.ntmps3
    go_wp2_with (go_at_call 4; refine (wakes_any _).mono ?_; rintro e w1 ⟨rfl, hb⟩; refine Hid.out ?_)
    refine Nu.hid ?_
    have G1 := Nu.hid (HG0.out.later hb)
    obtain ⟨x0, x1⟩ := G1.out.cells
    clear hb HG0
    go_wp2_with (first
      | (go_at_call 6; refine (G1.out.copy hle').mono ?_; rintro e w2 ⟨a2, c2, rfl, he2, hb2⟩; have HE := Nu.hid he2; have G2 := Nu.hid (G1.out.later hb2); clear he2 hb2)
      | (go_at_call 5; refine (HOC.out _ _ _ HE.out).mono ?_; rintro e w3 ⟨a3, c3, rfl, ho, hb3⟩; have G3 := Nu.hid (G2.out.later hb3); clear ho hb3; refine Hid.out ?_))
    refine Nu.hid ?_
    try dsimp only
    clear x0 x1 HE G1 G2
    obtain ⟨x0, x1⟩ := G3.out.cells
    go_wp2_with (first
      | (go_at_call 6; refine (G3.out.copy hle').mono ?_; rintro e w4 ⟨a4, c4, rfl, he4, hb4⟩; have HE := Nu.hid he4; have G4 := Nu.hid (G3.out.later hb4); clear he4 hb4)
      | (go_at_call 7; refine (HOB.out _ _ _ HE.out).mono ?_; rintro e w5 ⟨a5, c5, rfl, ho, hb5⟩; have G5 := Nu.hid (G4.out.later hb5); clear ho hb5; refine Hid.out ?_))
    refine Nu.hid ?_
    try dsimp only
    clear x0 x1 HE G3 G4
    obtain ⟨x0, x1⟩ := G5.out.cells
    go_wp2_with (go_at_call 8; refine (HRV.out _ G5.out.edges).mono ?_; rintro e w6 ⟨rfl, hb6⟩; have HB := Nu.hid (G5.out.later hb6).low; clear hb6)
    go_ret
    exact ⟨rfl, HB.out⟩
  | true =>
    have hval := Si.valid_iff.1 hv
    have hfew := hval.few
    have hhi := hval.hi
    obtain ⟨n, rfl⟩ : ∃ m : Nat, n = (m : Int) := ⟨n.toNat, by have := hval.lo; omega⟩
    rw [Bl.bs9_t hv] at HOB
    rw [hv] at HRV
    have HDG : Hid (∀ W, EdgesAt W ao es → Calls Tryz.prog 10 #[.agg #[.int .i64 (n : Int), .slice ao es.length ca]] W fun e w' => ∃ g, e = .returned (.tuple #[.slice (some ⟨g, 0, none⟩) n n, .int .i64 0]) ∧ IntsBlk w' g (Si.degs n es) ∧ Below W.heap.size W w') := fun W h => (rdegrees_any n ao ca es W h (by omega)).mono (by
      rintro e w' ⟨⟨_, g, m, hm, rfl, _, h2⟩ | ⟨h1, _⟩, hb⟩
      · obtain rfl : n = m := by omega
        exact ⟨g, rfl, h2, hb⟩
      · rw [hv] at h1
        cases h1)
    have HVAL := Nu.hid hval
    have HDM : Hid (∀ v, v < n → ∃ x : Int, (Si.degs n es)[v]? = some x ∧ 0 ≤ x ∧ (x = 0 ↔ Co.met es v = false)) := fun v hvn => by
      have := Co.degs_met hval es.length (Nat.le_refl _) v hvn
      rw [List.take_length] at this
      exact this
    clear hq hG0 hv hval
    go_enter Tryz.func3, Tryz.ntmps3
    go_wp2_with (go_at_call 4; refine (wakes_any _).mono ?_; rintro e w1 ⟨rfl, hb⟩; refine Hid.out ?_)
    refine Nu.hid ?_
    have G1 := Nu.hid (HG0.out.later hb)
    obtain ⟨x0, x1⟩ := G1.out.cells
    clear hb HG0
    go_wp2_with (first
      | (go_at_call 6; refine (G1.out.copy hle').mono ?_; rintro e w2 ⟨a2, c2, rfl, he2, hb2⟩; have HE := Nu.hid he2; have G2 := Nu.hid (G1.out.later hb2); clear he2 hb2)
      | (go_at_call 5; refine (cuts_vf HE.out HVAL.out).mono ?_; rintro e w3 ⟨a3, c3, rfl, hi3, ⟨s, hvf⟩, hb3⟩; have HL3 := Nu.hid hi3; have HVF := Nu.hid hvf; have G3 := Nu.hid (G2.out.later hb3); clear hi3 hvf hb3; refine Hid.out ?_))
    refine Nu.hid ?_
    clear x0 x1 HE G1 G2
    obtain ⟨x0, x1⟩ := G3.out.cells
    -- the lists, by what they pick
    obtain ⟨I, hI⟩ : ∃ I : Nat → Nat, (fun v : Nat => Bl.inB es (Bl.no9 es) (v : Int) (Bl.ct9 es)) = I := ⟨_, rfl⟩
    have hIe : ∀ v : Nat, Bl.inB es (Bl.no9 es) (v : Int) (Bl.ct9 es) = I v := fun v => congrFun hI v
    obtain ⟨q, hqq⟩ : ∃ q : Nat → Bool, (fun v => decide (1 < I v)) = q := ⟨_, rfl⟩
    have HQ : Hid (∀ v, q v = decide (1 < I v)) := fun v => by rw [← hqq]
    obtain ⟨r, hrr⟩ : ∃ r : Nat → Bool, (fun i => Bl.lone (Bl.no9 es) i es.length) = r := ⟨_, rfl⟩
    have HCT : Bl.cutsTo es (Bl.no9 es) (Bl.ct9 es) n = ((List.range n).filter q).map fun v : Nat => (v : Int) := by
      unfold Bl.cutsTo
      rw [← hqq]
      congr 1
      exact List.filter_congr fun v _ => by rw [hIe]
    have HBT : Bl.brTo (Bl.no9 es) es.length es.length = ((List.range es.length).filter r).map fun v : Nat => (v : Int) := by
      unfold Bl.brTo
      rw [← hrr]
    have HN1 : Hid (∀ v, v < n → Co.cnt n (Co.ofG n (Bl.woE es (v : Int))) = Co.cnt n (Co.ofG n es) + I v) := fun v hvn => by rw [← hIe]; exact Bl.now_wo HVAL.out HVF.out hvn
    have HN2 : Hid (∀ i, i < es.length → (Co.cnt n (Co.ofG n es) < Co.cnt n (Co.ofG n (es.eraseIdx i)) ↔ r i = true)) := fun i hi => by rw [← hrr]; exact Bl.now_less HVAL.out HVF.out hi
    have HUN : Hid (∀ v, Co.met es v = false → I v = 0) := fun v hm => by rw [← hIe]; exact Bl.unmet_in hm _
    rw [HCT] at HL3 ⊢
    rw [HBT] at HOB
    obtain ⟨L, hL⟩ : ∃ L, (((List.range n).filter q).map fun v : Nat => (v : Int)) = L := ⟨_, rfl⟩
    obtain ⟨B, hB⟩ : ∃ B, (((List.range es.length).filter r).map fun v : Nat => (v : Int)) = B := ⟨_, rfl⟩
    have HLY : Hid (∀ v, v < n → q v = true → L[Co.cntTo q v]? = some (v : Int)) := fun v hvn h => by rw [← hL]; exact Bl.hit_yes hvn h
    have HLN : Hid (∀ v y, q v = false → L[Co.cntTo q v]? = some y → y ≠ (v : Int)) := fun v y h hy => by rw [← hL] at hy; exact Bl.hit_no h hy
    have HBY : Hid (∀ v, v < es.length → r v = true → B[Co.cntTo r v]? = some (v : Int)) := fun v hvn h => by rw [← hB]; exact Bl.hit_yes hvn h
    have HBN : Hid (∀ v y, r v = false → B[Co.cntTo r v]? = some y → y ≠ (v : Int)) := fun v y h hy => by rw [← hB] at hy; exact Bl.hit_no h hy
    rw [hL] at HL3 ⊢
    rw [hB] at HOB
    obtain ⟨C, hC⟩ : ∃ C, Co.cnt n (Co.ofG n es) = C := ⟨_, rfl⟩
    have hCn : C ≤ n := by rw [← hC]; exact Co.cntTo_le _ _
    have HCM : Hid (∀ a c W, EdgesAt W a es → Calls Tryz.prog 9 #[.agg #[.int .i64 (n : Int), .slice a es.length c]] W fun e w' => ∃ ao k c, e = .returned (.tuple #[.slice ao k c, .int .i64 (C : Int), .int .i64 0]) ∧ Below W.heap.size W w') := fun a c W h => by
      have := comps_yes (c := c) h HVAL.out
      rw [hC] at this
      exact this
    rw [hC] at HN1 HN2
    clear HCT HBT hI hIe hqq hrr hL hB hC
    go_wp2_with (first
      | (go_at_call 6; refine (G3.out.copy hle').mono ?_; rintro e w4 ⟨a4, c4, rfl, he4, hb4⟩; have HE := Nu.hid he4; have G4 := Nu.hid (G3.out.later hb4); have HL4 := Nu.hid (HL3.out.later hb4); clear he4 hb4)
      | (go_at_call 7; refine (HOB.out _ _ _ HE.out).mono ?_; rintro e w5 ⟨a5, c5, rfl, ho, hb5⟩; have HB5 := Nu.hid ho.at; have G5 := Nu.hid (G4.out.later hb5); have HL5 := Nu.hid (HL4.out.later hb5); clear ho hb5; refine Hid.out ?_))
    refine Nu.hid ?_
    try dsimp only
    try dsimp only at HB5
    clear x0 x1 HE G3 G4 HL3 HL4
    obtain ⟨x0, x1⟩ := G5.out.cells
    go_wp2_with (go_at_call 8; refine (HRV.out _ G5.out.edges).mono ?_; rintro e w6 ⟨rfl, hb6⟩; refine Hid.out ?_)
    refine Nu.hid ?_
    have G6 := Nu.hid (G5.out.later hb6)
    have HL6 := Nu.hid (HL5.out.later hb6)
    have HB6 := Nu.hid (HB5.out.later hb6)
    clear x0 x1 hb6 G5 HL5 HB5
    obtain ⟨x0, x1⟩ := G6.out.cells
    go_wp2_with (first
      | (go_at_call 6; refine (G6.out.copy hle').mono ?_; rintro e w7 ⟨a7, c7, rfl, he7, hb7⟩; have HE := Nu.hid he7; have G7 := Nu.hid (G6.out.later hb7); have HL7 := Nu.hid (HL6.out.later hb7); have HB7 := Nu.hid (HB6.out.later hb7); clear he7 hb7)
      | (go_at_call 9; refine (HCM.out _ _ _ HE.out).mono ?_; rintro e w8 ⟨a8, k8, c8, rfl, hb8⟩; have G8 := Nu.hid (G7.out.later hb8); have HL8 := Nu.hid (HL7.out.later hb8); have HB8 := Nu.hid (HB7.out.later hb8); clear hb8; refine Hid.out ?_))
    refine Nu.hid ?_
    clear x0 x1 HE G6 G7 HL6 HL7 HB6 HB7
    obtain ⟨x0, x1⟩ := G8.out.cells
    go_wp2_with (go_at_call 10; refine (HDG.out _ G8.out.edges).mono ?_; rintro e w9 ⟨gd, rfl, hd9, hb9⟩; refine Hid.out ?_)
    refine Nu.hid ?_
    have G9 := Nu.hid (G8.out.later hb9)
    have HL9 := Nu.hid (HL8.out.later hb9)
    have HB9 := Nu.hid (HB8.out.later hb9)
    have HD9 := Nu.hid hd9
    clear x0 x1 hb9 hd9 G8 HL8 HB8
    have HWO : Hid (∀ (v : Nat) W, EdgesAt W ao es → Calls Tryz.prog 11 #[.agg #[.int .i64 (n : Int), .slice ao es.length ca], .int .i64 (v : Int)] W fun r w' => ∃ a c, r = .returned (.agg #[.int .i64 (n : Int), .slice a (Bl.woE es (v : Int)).length c]) ∧ EdgesAt w' a (Bl.woE es (v : Int)) ∧ Below W.heap.size W w') := fun v W h => without9_any n ao ca es (v : Int) W h hfew
    have HLE : Hid (∀ (v : Nat) W, EdgesAt W ao es → Calls Tryz.prog 12 #[.agg #[.int .i64 (n : Int), .slice ao es.length ca], .int .i64 (v : Int)] W fun r w' => ∃ a c, r = .returned (.agg #[.int .i64 (n : Int), .slice a (es.eraseIdx v).length c]) ∧ EdgesAt w' a (es.eraseIdx v) ∧ Below W.heap.size W w') := fun v W h => less9_any n ao ca es v W h hfew
    have HCW : Hid (∀ (v : Nat) a c W, EdgesAt W a (Bl.woE es (v : Int)) → Calls Tryz.prog 9 #[.agg #[.int .i64 (n : Int), .slice a (Bl.woE es (v : Int)).length c]] W fun e w' => ∃ ao k c, e = .returned (.tuple #[.slice ao k c, .int .i64 (Co.cnt n (Co.ofG n (Bl.woE es (v : Int))) : Int), .int .i64 0]) ∧ Below W.heap.size W w') := fun v a c W h => comps_yes h (Bl.wo_val HVAL.out)
    have HCL : Hid (∀ (v : Nat) a c W, EdgesAt W a (es.eraseIdx v) → Calls Tryz.prog 9 #[.agg #[.int .i64 (n : Int), .slice a (es.eraseIdx v).length c]] W fun e w' => ∃ ao k c, e = .returned (.tuple #[.slice ao k c, .int .i64 (Co.cnt n (Co.ofG n (es.eraseIdx v)) : Int), .int .i64 0]) ∧ Below W.heap.size W w') := fun v a c W h => comps_yes h (Bl.less_val HVAL.out v)
    have H9 : Hid (Cu9 w n ao ca es a3 L a5 B gd w9) := ⟨G9.out, HL9.out, HB9.out, HD9.out⟩
    clear G9 HL9 HB9 HD9
    go_wp2
    go_loopw [12, 13] (fun av cv wr => ∃ v : Nat, v ≤ n ∧ cv = .int .i64 (v : Int) ∧ av = .int .i64 (Co.cntTo q v : Int) ∧ Cu9 w n ao ca es a3 L a5 B gd wr) (fun _ cv _ => n - (intOf cv).toNat)
    case atStart => exact ⟨0, Nat.zero_le _, rfl, rfl, H9.out⟩
    case round =>
      clear H9
      obtain ⟨v, hvn, rfl, rfl, hH⟩ := hrel
      have H := Nu.hid hH
      obtain ⟨x0, x1⟩ := hH.g.cells
      have hAl := Co.cntTo_le q v
      by_cases hin : v < n
      · have hili : (v : Int) < (n : Int) := by omega
        by_cases h60 : v < 60
        · have h60i : (v : Int) < 60 := by omega
          have hv0 : (0 : Int) ≤ (v : Int) := by omega
          clear hH
          go_wp2_with (first
            | (go_at_call 11; refine (HWO.out v _ H.out.g.edges).mono ?_; rintro e w11 ⟨a11, c11, rfl, he11, hb11⟩; have HE := Nu.hid he11; have H11 := Nu.hid (H.out.later hb11); clear he11 hb11)
            | (go_at_call 9; refine (HCW.out v _ _ _ HE.out).mono ?_; rintro e w12 ⟨a12, k12, c12, rfl, hb12⟩; have H12 := Nu.hid (H11.out.later hb12); clear hb12; refine Hid.out ?_))
          refine Nu.hid ?_
          have hn1 := HN1.out v hin
          have hnl : Co.cnt n (Co.ofG n (Bl.woE es (v : Int))) ≤ n := Co.cntTo_le _ _
          rw [hn1] at hnl ⊢
          obtain ⟨x, hx, hx0, hxm⟩ := HDM.out v hin
          have hun := HUN.out v
          have hqv := HQ.out v
          have dd := H12.out.dg.cell hx
          have HC1 : Hid (Co.cntTo q (v + 1) = Co.cntTo q v + (if q v = true then 1 else 0)) := rfl
          obtain ⟨Iv, hIv⟩ : ∃ Iv, I v = Iv := ⟨_, rfl⟩
          rw [hIv] at hnl hun hqv ⊢
          clear x0 x1 HE H11 hn1 hx hIv
          cases hq1 : q v with
          | true =>
            have hI1 : 1 < Iv := by rw [hq1] at hqv; simpa using hqv.symm
            have hxp : (0 : Int) < x := by
              rcases Int.lt_or_eq_of_le hx0 with h | h
              · exact h
              · have := hun (hxm.1 h.symm)
                omega
            have hgt : (C : Int) + 1 < (C : Int) + (Iv : Int) := by omega
            have hy := HLY.out v hin hq1
            have hAL := (List.getElem?_eq_some_iff.1 hy).1
            obtain ⟨bb, bo, ea3, d0⟩ := H12.out.cu _ _ hy
            subst ea3
            rw [if_pos hq1] at HC1
            obtain ⟨A, hA⟩ : ∃ A, Co.cntTo q v = A := ⟨_, rfl⟩
            rw [hA] at HC1 hAL hAl d0 ⊢
            have j0 : (0 : Int) ≤ (A : Int) := by omega
            have j1 : (A : Int) < (L.length : Int) := by omega
            clear hy hq1 hqv hun hxm hA
            go_wp2
            go_roundw
            case rel => exact ⟨v + 1, by omega, by go_num, by rw [HC1.out]; go_num, H12.out⟩
            case measure => simp [intOf]; omega
          | false =>
            have hI1 : ¬ 1 < Iv := by rw [hq1] at hqv; simpa using hqv.symm
            have hgt : ¬ (C : Int) + 1 < (C : Int) + (Iv : Int) := by omega
            rw [if_neg (by rw [hq1]; decide)] at HC1
            by_cases hAL : Co.cntTo q v < L.length
            · obtain ⟨y, hy⟩ : ∃ y, L[Co.cntTo q v]? = some y := ⟨_, List.getElem?_eq_getElem hAL⟩
              have hne := HLN.out v y hq1 hy
              obtain ⟨bb, bo, ea3, d0⟩ := H12.out.cu _ _ hy
              subst ea3
              obtain ⟨A, hA⟩ : ∃ A, Co.cntTo q v = A := ⟨_, rfl⟩
              rw [hA] at HC1 hAL hAl d0 ⊢
              have j0 : (0 : Int) ≤ (A : Int) := by omega
              have j1 : (A : Int) < (L.length : Int) := by omega
              have j2 : (y == (v : Int)) = false := by simp [hne]
              clear hy hq1 hqv hun hxm hA hne
              by_cases hxp : (0 : Int) < x
              · skip
                go_wp2
                go_roundw
                case rel => exact ⟨v + 1, by omega, by go_num, by rw [HC1.out]; rfl, H12.out⟩
                case measure => simp [intOf]; omega
              · skip
                go_wp2
                go_roundw
                case rel => exact ⟨v + 1, by omega, by go_num, by rw [HC1.out]; rfl, H12.out⟩
                case measure => simp [intOf]; omega
            · have j1 : ¬ (Co.cntTo q v : Int) < (L.length : Int) := by omega
              clear hq1 hqv hun hxm
              by_cases hxp : (0 : Int) < x
              · skip
                go_wp2
                go_roundw
                case rel => exact ⟨v + 1, by omega, by go_num, by rw [HC1.out]; rfl, H12.out⟩
                case measure => simp [intOf]; omega
              · skip
                go_wp2
                go_roundw
                case rel => exact ⟨v + 1, by omega, by go_num, by rw [HC1.out]; rfl, H12.out⟩
                case measure => simp [intOf]; omega
        · have h60i : ¬ (v : Int) < 60 := by omega
          clear hH
          go_wp2
          clear x0 x1
          go_loopw [12, 19] (fun av cv wr => ∃ i : Nat, i ≤ es.length ∧ cv = .int .i64 (i : Int) ∧ av = .int .i64 (Co.cntTo r i : Int) ∧ Cu9 w n ao ca es a3 L a5 B gd wr) (fun _ cv _ => es.length - (intOf cv).toNat)
          case atStart => exact ⟨0, Nat.zero_le _, rfl, rfl, H.out⟩
          case round =>
            clear H
            obtain ⟨i, hil, rfl, rfl, hH⟩ := hrel
            have H := Nu.hid hH
            obtain ⟨x0, x1⟩ := hH.g.cells
            have hAl := Co.cntTo_le r i
            by_cases hin : i < es.length
            · have hili : (i : Int) < (es.length : Int) := by omega
              by_cases h120 : i < 120
              · have h120i : (i : Int) < 120 := by omega
                clear hH
                go_wp2_with (first
                  | (go_at_call 12; refine (HLE.out i _ H.out.g.edges).mono ?_; rintro e w11 ⟨a11, c11, rfl, he11, hb11⟩; have HE := Nu.hid he11; have H11 := Nu.hid (H.out.later hb11); clear he11 hb11)
                  | (go_at_call 9; refine (HCL.out i _ _ _ HE.out).mono ?_; rintro e w12 ⟨a12, k12, c12, rfl, hb12⟩; have H12 := Nu.hid (H11.out.later hb12); clear hb12; refine Hid.out ?_))
                refine Nu.hid ?_
                have hn2 := HN2.out i hin
                have hnl : Co.cnt n (Co.ofG n (es.eraseIdx i)) ≤ n := Co.cntTo_le _ _
                obtain ⟨N, hN⟩ : ∃ N, Co.cnt n (Co.ofG n (es.eraseIdx i)) = N := ⟨_, rfl⟩
                rw [hN] at hn2 hnl ⊢
                have HC1 : Hid (Co.cntTo r (i + 1) = Co.cntTo r i + (if r i = true then 1 else 0)) := rfl
                clear x0 x1 HE H11 hN
                cases hri : r i with
                | true =>
                  have hy := HBY.out i hin hri
                  have hAL := (List.getElem?_eq_some_iff.1 hy).1
                  obtain ⟨bb, bo, ea5, d0⟩ := H12.out.br _ _ hy
                  subst ea5
                  have hgt : (C : Int) < (N : Int) := by have := hn2.2 hri; omega
                  rw [if_pos hri] at HC1
                  obtain ⟨A, hA⟩ : ∃ A, Co.cntTo r i = A := ⟨_, rfl⟩
                  rw [hA] at HC1 hAL hAl d0 ⊢
                  have j0 : (0 : Int) ≤ (A : Int) := by omega
                  have j1 : (A : Int) < (B.length : Int) := by omega
                  clear hy hri hn2 hA
                  go_wp2
                  go_roundw
                  case rel => exact ⟨i + 1, by omega, by go_num, by rw [HC1.out]; go_num, H12.out⟩
                  case measure => simp [intOf]; omega
                | false =>
                  have hgt : ¬ (C : Int) < (N : Int) := by
                    intro hlt
                    have := hn2.1 (by omega)
                    rw [hri] at this
                    cases this
                  rw [if_neg (by rw [hri]; decide)] at HC1
                  by_cases hAL : Co.cntTo r i < B.length
                  · obtain ⟨y, hy⟩ : ∃ y, B[Co.cntTo r i]? = some y := ⟨_, List.getElem?_eq_getElem hAL⟩
                    have hne := HBN.out i y hri hy
                    obtain ⟨bb, bo, ea5, d0⟩ := H12.out.br _ _ hy
                    subst ea5
                    obtain ⟨A, hA⟩ : ∃ A, Co.cntTo r i = A := ⟨_, rfl⟩
                    rw [hA] at HC1 hAL hAl d0 ⊢
                    have j0 : (0 : Int) ≤ (A : Int) := by omega
                    have j1 : (A : Int) < (B.length : Int) := by omega
                    have j2 : (y == (i : Int)) = false := by simp [hne]
                    clear hy hri hn2 hA hne
                    go_wp2
                    go_roundw
                    case rel => exact ⟨i + 1, by omega, by go_num, by rw [HC1.out]; rfl, H12.out⟩
                    case measure => simp [intOf]; omega
                  · have j1 : ¬ (Co.cntTo r i : Int) < (B.length : Int) := by omega
                    clear hri hn2
                    go_wp2
                    go_roundw
                    case rel => exact ⟨i + 1, by omega, by go_num, by rw [HC1.out]; rfl, H12.out⟩
                    case measure => simp [intOf]; omega
              · have h120i : ¬ (i : Int) < 120 := by omega
                clear hH
                go_wp2
                go_ret
                exact ⟨rfl, H.out.g.low⟩
            · have hili : ¬ (i : Int) < (es.length : Int) := by omega
              clear hH
              go_wp2
              go_ret
              exact ⟨rfl, H.out.g.low⟩
      · have hili : ¬ (v : Int) < (n : Int) := by omega
        clear hH
        go_wp2
        clear x0 x1
        go_loopw [12, 19] (fun av cv wr => ∃ i : Nat, i ≤ es.length ∧ cv = .int .i64 (i : Int) ∧ av = .int .i64 (Co.cntTo r i : Int) ∧ Cu9 w n ao ca es a3 L a5 B gd wr) (fun _ cv _ => es.length - (intOf cv).toNat)
        case atStart => exact ⟨0, Nat.zero_le _, rfl, rfl, H.out⟩
        case round =>
          clear H
          obtain ⟨i, hil, rfl, rfl, hH⟩ := hrel
          have H := Nu.hid hH
          obtain ⟨x0, x1⟩ := hH.g.cells
          have hAl := Co.cntTo_le r i
          by_cases hin : i < es.length
          · have hili : (i : Int) < (es.length : Int) := by omega
            by_cases h120 : i < 120
            · have h120i : (i : Int) < 120 := by omega
              clear hH
              go_wp2_with (first
                | (go_at_call 12; refine (HLE.out i _ H.out.g.edges).mono ?_; rintro e w11 ⟨a11, c11, rfl, he11, hb11⟩; have HE := Nu.hid he11; have H11 := Nu.hid (H.out.later hb11); clear he11 hb11)
                | (go_at_call 9; refine (HCL.out i _ _ _ HE.out).mono ?_; rintro e w12 ⟨a12, k12, c12, rfl, hb12⟩; have H12 := Nu.hid (H11.out.later hb12); clear hb12; refine Hid.out ?_))
              refine Nu.hid ?_
              have hn2 := HN2.out i hin
              have hnl : Co.cnt n (Co.ofG n (es.eraseIdx i)) ≤ n := Co.cntTo_le _ _
              obtain ⟨N, hN⟩ : ∃ N, Co.cnt n (Co.ofG n (es.eraseIdx i)) = N := ⟨_, rfl⟩
              rw [hN] at hn2 hnl ⊢
              have HC1 : Hid (Co.cntTo r (i + 1) = Co.cntTo r i + (if r i = true then 1 else 0)) := rfl
              clear x0 x1 HE H11 hN
              cases hri : r i with
              | true =>
                have hy := HBY.out i hin hri
                have hAL := (List.getElem?_eq_some_iff.1 hy).1
                obtain ⟨bb, bo, ea5, d0⟩ := H12.out.br _ _ hy
                subst ea5
                have hgt : (C : Int) < (N : Int) := by have := hn2.2 hri; omega
                rw [if_pos hri] at HC1
                obtain ⟨A, hA⟩ : ∃ A, Co.cntTo r i = A := ⟨_, rfl⟩
                rw [hA] at HC1 hAL hAl d0 ⊢
                have j0 : (0 : Int) ≤ (A : Int) := by omega
                have j1 : (A : Int) < (B.length : Int) := by omega
                clear hy hri hn2 hA
                go_wp2
                go_roundw
                case rel => exact ⟨i + 1, by omega, by go_num, by rw [HC1.out]; go_num, H12.out⟩
                case measure => simp [intOf]; omega
              | false =>
                have hgt : ¬ (C : Int) < (N : Int) := by
                  intro hlt
                  have := hn2.1 (by omega)
                  rw [hri] at this
                  cases this
                rw [if_neg (by rw [hri]; decide)] at HC1
                by_cases hAL : Co.cntTo r i < B.length
                · obtain ⟨y, hy⟩ : ∃ y, B[Co.cntTo r i]? = some y := ⟨_, List.getElem?_eq_getElem hAL⟩
                  have hne := HBN.out i y hri hy
                  obtain ⟨bb, bo, ea5, d0⟩ := H12.out.br _ _ hy
                  subst ea5
                  obtain ⟨A, hA⟩ : ∃ A, Co.cntTo r i = A := ⟨_, rfl⟩
                  rw [hA] at HC1 hAL hAl d0 ⊢
                  have j0 : (0 : Int) ≤ (A : Int) := by omega
                  have j1 : (A : Int) < (B.length : Int) := by omega
                  have j2 : (y == (i : Int)) = false := by simp [hne]
                  clear hy hri hn2 hA hne
                  go_wp2
                  go_roundw
                  case rel => exact ⟨i + 1, by omega, by go_num, by rw [HC1.out]; rfl, H12.out⟩
                  case measure => simp [intOf]; omega
                · have j1 : ¬ (Co.cntTo r i : Int) < (B.length : Int) := by omega
                  clear hri hn2
                  go_wp2
                  go_roundw
                  case rel => exact ⟨i + 1, by omega, by go_num, by rw [HC1.out]; rfl, H12.out⟩
                  case measure => simp [intOf]; omega
            · have h120i : ¬ (i : Int) < 120 := by omega
              clear hH
              go_wp2
              go_ret
              exact ⟨rfl, H.out.g.low⟩
          · have hili : ¬ (i : Int) < (es.length : Int) := by omega
            clear hH
            go_wp2
            go_ret
            exact ⟨rfl, H.out.g.low⟩
set_option maxRecDepth 100000 in
/-- What the walk gives, for every argument and every world. -/
theorem contract (H : Type) (enc : TypeId × Value → H) (W : World) (base : Nat) (args : Array Value) (ds gs : List (DataW H)) (before : List MemPlace)
    (hval : ∀ (j : Nat) t v, Tryz.f3.params[j]? = some t → args[j]? = some v → Value.okWide Tryz.prog W .any base t v)
    (hW : DataW.Whole enc Tryz.prog Tryz.f3.params.toList Rows.blocksCutsSpec.vars false W args.toList ds gs before)
    (hsz : (DataW.weightsEach Tryz.prog (Tryz.f3.params.toList ++ (OpenSpec.ofChange Rows.blocksCutsSpec).bare.plain.varTypes Tryz.prog) (ds ++ gs)).all (· ≤ reachBytes) = true)
    :
    Calls Tryz.prog 3 args W fun e W' => ∃ v, e = .returned v ∧ Rows.blocksCutsSpec.post enc Tryz.prog Tryz.f3 false true false false W args v W' := by
  have hW' := hW
  obtain ⟨p, q, hA0, hV, rfl, hfz, hnd⟩ := hW
  have hA : DataW.TrodAll enc Tryz.prog W 0 (fun _ => true) true Tryz.f3.params.toList args.toList ds p := hA0
  rw [Tryz.params3] at hA hval hsz
  obtain ⟨v0, vs0, d0, ds0, p0, q0, hargs, rfl, rfl, h0, r0⟩ := trodAll_cons hA
  obtain ⟨rfl, rfl, rfl⟩ := trodAll_nil r0
  obtain rfl : args = #[v0] := by cases args; simp_all
  obtain ⟨rfl, rfl⟩ := trodVars_none hV
  have k0 := h0
  have lt0 : ∀ x ∈ p0, x.block < W.heap.size := by obtain ⟨m, hm⟩ := k0; exact DataW.trod_lt m _ _ _ hm
  obtain ⟨n0, a0, cap0, q0, rfl, x0, w0, u0⟩ := graph_of_trod (j := 0) (hval 0 24 v0 rfl rfl) h0 hsz rfl rfl
  clear hA0
  refine (walk n0 a0 cap0 q0 W x0 w0 u0).mono fun e W' ⟨he, bel⟩ => ?_
  subst he
  exact ⟨_, rfl, _, _, _, [], _, [], hW', trodAll_mk1 (shut_bool Tryz.underlying4 _), (trodAll_cons_mk (Below.trod laidOut (by kernel_rfl) (of_decide_eq_true (by kernel_rfl)) k0 bel lt0) trodAll_mk0), rfl, bel.frame _, fun h => by cases h⟩

theorem laid_met (os : Os) : laidMet Tryz.prog Rows.blocksCutsRow.laid ((settled os).forCall (fun _ _ => 0) ⟨#[], #[.agg #[.int .i64 0, .slice none 0 0]], []⟩).memory :=
  laidMet_of_run' 100 (by kernel_rfl) (by kernel_rfl)
theorem reads (os : Os) {H : Type} (enc : TypeId × Value → H) : ∃ places, DataW.whole enc Tryz.prog ((settled os).forCall (fun _ _ => 0) ⟨#[], #[.agg #[.int .i64 0, .slice none 0 0]], []⟩).memory Tryz.f3.params.toList Rows.blocksCutsSpec.vars false (#[.agg #[.int .i64 0, .slice none 0 0]] : Array Value).toList 8 = some ([.agg [.lit (.int .i64 0), .nil]], [], places) :=
  ⟨[], by kernel_rfl⟩

set_option maxRecDepth 100000 in
theorem lifted (os : Os) (started : os.Started) (H : Type) (enc : TypeId × Value → H) (F : Stop.Interp) :
    ReturnsInHanded {} Tryz.checked os 3 .any ((OpenSpec.ofChange Rows.blocksCutsSpec).preRow enc Tryz.prog Tryz.f3 Rows.blocksCutsRow.domain false Rows.blocksCutsRow.laid) (((OpenSpec.ofChange Rows.blocksCutsSpec).at F).post enc Tryz.prog Tryz.f3 false true false false) := by
  obtain ⟨places, hx⟩ := reads os enc
  refine returnsInHanded_of_row (C := Tryz.checked) (s := (OpenSpec.ofChange Rows.blocksCutsSpec)) own started (by kernel_rfl) Tryz.func3
    (witness_row_at (enc := enc) (C := Tryz.checked) false (settled os) #[.agg #[.int .i64 0, .slice none 0 0]] rfl (by kernel_rfl) (by kernel_rfl) (by kernel_rfl)
      (OpenSpec.preRow_of_cond 8 hx (by kernel_rfl) (fun k hk => by cases hk) (by kernel_rfl) (laid_met os))) ?_
  intro W base args ds gs before hval hW _ _ hsz _ _ _
  exact contract H enc W base args ds gs before hval hW hsz 

theorem said : Rows.BlocksCutsSaid :=
  OpenClaim.holds_of_cond 3 Tryz.f3 rfl rfl rfl rfl rfl rfl rfl ⟨rfl, rfl, rfl, rfl, rfl⟩ rfl rfl rfl rfl rfl (by kernel_rfl) Tryz.func3 (by kernel_rfl)
    (of_decide_eq_true (by kernel_rfl)) (by unfold Func.isWrapper; first | (rw [if_pos (by decide +kernel)]; kernel_rfl) | (rw [if_neg (by decide +kernel)]; exact ⟨rfl, rfl⟩))
    (fun os started H enc _ F => by rw [OpenClaim.pre_eq_preRow]; exact lifted os started H enc F)

end lawCuts

theorem blocksCuts_holds : Rows.BlocksCutsSaid := lawCuts.said

#print axioms blocksCuts_holds
end Go.Proofs.YtalfpbalekbinaaGreat
