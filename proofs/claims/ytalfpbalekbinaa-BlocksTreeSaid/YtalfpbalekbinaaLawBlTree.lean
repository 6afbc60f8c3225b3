/-
  Proved: for every graph the law BlocksTree answers true, and the graph reads afterwards as before. No condition.
-/
import Derived.Test.YtalfpbalekbinaaBlEs
import Derived.Test.YtalfpbalekbinaaMg42
namespace Go.Proofs.Ytalfpbalekbinaa
open Go.ChangeShapes Go.WideShapes Go.ChangeAt Go.RowKit

namespace Bl
section
variable {es : List (Int × Int)}
theorem cntTo_up (p : Nat → Bool) {a : Nat} : ∀ {b : Nat}, a ≤ b → Co.cntTo p a ≤ Co.cntTo p b
  | 0, h => by
    have : a = 0 := by omega
    rw [this]
    exact Nat.le_refl _
  | b + 1, h => by
    by_cases e : a = b + 1
    · rw [e]
      exact Nat.le_refl _
    · have := cntTo_up p (a := a) (b := b) (by omega)
      rw [Co.cntTo]
      omega
theorem begin_yes {i : Nat} (h : m9 es i = i) : no9 es i = cntB (m9 es) i ∧ cntB (m9 es) (i + 1) = cntB (m9 es) i + 1 := by
  refine ⟨?_, cntB_yes h⟩
  unfold no9 numB
  rw [h]
theorem begin_no {i : Nat} (hi : i < es.length) (h : m9 es i ≠ i) : no9 es i < cntB (m9 es) i ∧ cntB (m9 es) (i + 1) = cntB (m9 es) i := by
  refine ⟨?_, cntB_no h⟩
  have hl := m9_norm.le i hi
  have h1 : cntB (m9 es) (m9 es i + 1) = cntB (m9 es) (m9 es i) + 1 := cntB_yes (m9_norm.idem i hi)
  have h2 : cntB (m9 es) (m9 es i + 1) ≤ cntB (m9 es) i := cntTo_up _ (by omega)
  unfold no9 numB
  omega
theorem sumTo_most {g : Nat → Nat} {B : Nat} (h : ∀ a, g a ≤ B) : ∀ n, sumTo g n ≤ n * B
  | 0 => by simp [sumTo]
  | n + 1 => by
    have := sumTo_most h n
    have := h n
    rw [sumTo, Nat.add_mul]
    omega
end
end Bl

namespace lawTree

theorem comps_yes {n : Nat} {a : Option Addr} {c : Nat} {es : List (Int × Int)} {W : World} (he : EdgesAt W a es) (hv : Si.Val n es) : Calls Try.prog 22 #[.agg #[.int .i64 (n : Int), .slice a es.length c]] W fun e w' => ∃ ao k c, e = .returned (.tuple #[.slice ao k c, .int .i64 (Co.cnt n (Co.ofG n es) : Int), .int .i64 0]) ∧ Below W.heap.size W w' := (of_any n a c es W he (by have := hv.few; omega)).mono (by
  rintro e w' ⟨⟨m', v, h1, h2, h3, h4⟩ | ⟨h1, _⟩, hb⟩
  · obtain rfl : n = m' := by omega
    obtain ⟨ao, c, hv, -, -⟩ := h4.form
    subst hv
    exact ⟨ao, _, c, h3, hb⟩
  · rw [Si.valid_iff.2 hv] at h1
    cases h1)
theorem iso_yes {n : Nat} {a : Option Addr} {c : Nat} {es : List (Int × Int)} {W : World} (he : EdgesAt W a es) (hv : Si.Val n es) : Calls Try.prog 23 #[.agg #[.int .i64 (n : Int), .slice a es.length c]] W fun e w' => e = .returned (.tuple #[.int .i64 (Co.iso n es : Int), .int .i64 0]) ∧ Below W.heap.size W w' := (isolated_any n a c es W he (by have := hv.few; omega)).mono (by
  rintro e w' ⟨⟨m', h1, h2, h3⟩ | ⟨h1, _⟩, hb⟩
  · obtain rfl : n = m' := by omega
    exact ⟨h3, hb⟩
  · rw [Si.valid_iff.2 hv] at h1
    cases h1)
theorem of_vf {n : Nat} {a : Option Addr} {c : Nat} {es : List (Int × Int)} {W : World} (he : EdgesAt W a es) (hv : Si.Val n es) : Calls Try.prog 9 #[.agg #[.int .i64 (n : Int), .slice a es.length c]] W fun e w' => ∃ g, e = .returned (.tuple #[.slice (some ⟨g, 0, none⟩) es.length es.length, .int .i64 (Bl.ct9 es : Int), .int .i64 0]) ∧ IntsAt w' (some ⟨g, 0, none⟩) (Bl.nums es.length (Bl.no9 es)) ∧ (∃ s, Df.VF n es s) ∧ Below W.heap.size W w' := (pof9_yes n a c es W he hv).mono (by
  rintro e w' ⟨s, go, hvf, rfl, h2, h3, h4⟩
  obtain ⟨k1, k2⟩ := Bl.no9_of (fun e he => Bl.m9_mB hv hvf (e := e) he)
  rw [Bl.nums_congr k1] at h2
  exact ⟨go, by rw [k2], h2.at, ⟨s, hvf⟩, h4⟩)

set_option maxRecDepth 100000 in
set_option maxHeartbeats 16000000 in
theorem walk (n : Int) (ao : Option Addr) (ca : Nat) (es : List (Int × Int)) (w : World) (_ : -9223372036854775808 ≤ n ∧ n ≤ 9223372036854775807) (hq : PairsIn w ao es.length ca es) (hle : es.length * 16 ≤ 140737488351232) :
    Calls Try.prog 5 #[.agg #[.int .i64 n, .slice ao es.length ca]] w fun e w' => e = .returned (.bool true) ∧ Below w.heap.size w w' := by
  have hG0 : Gr9 w n ao ca es _ := .start hq.hat
  have HG0 := Nu.hid hG0
  have hle' : es.length * 16 ≤ 140737488355328 := by omega
  have HRV : Hid (∀ W, EdgesAt W ao es → Calls Try.prog 20 #[.agg #[.int .i64 n, .slice ao es.length ca]] W fun e w' => e = .returned (.bool (Si.valid n es)) ∧ Below W.heap.size W w') := fun W h => rvalid_any n ao ca es W h (by omega)
  cases hv : Si.valid n es with
  | false =>
    have HO : Hid (∀ a c W, EdgesAt W a es → Calls Try.prog 9 #[.agg #[.int .i64 n, .slice a es.length c]] W (OfS (Bl.of9 n es) W)) := fun a c W h => pof_is n a c es W h (by omega)
    rw [Bl.of9_f hv] at HO
    rw [hv] at HRV
    clear hq hG0 hv
    go_enter Try.func5, Try.ntmps5
    go_wp2_with (go_at_call 8; refine (wakes_any _).mono ?_; rintro e w1 ⟨rfl, hb⟩; refine Hid.out ?_)
    refine Nu.hid ?_
    have G1 := Nu.hid (HG0.out.later hb)
    obtain ⟨x0, x1⟩ := G1.out.cells
    clear hb HG0
    go_wp2_with (first
      | (go_at_call 10; refine (G1.out.copy hle').mono ?_; rintro e w2 ⟨a2, c2, rfl, he2, hb2⟩; have HE := Nu.hid he2; have G2 := Nu.hid (G1.out.later hb2); clear he2 hb2)
      | (go_at_call 9; refine (HO.out _ _ _ HE.out).mono ?_; rintro e w3 ⟨a3, c3, rfl, ho, hb3⟩; have G3 := Nu.hid (G2.out.later hb3); clear ho hb3; refine Hid.out ?_))
    refine Nu.hid ?_
    try dsimp only
    clear x0 x1 HE G1 G2
    obtain ⟨x0, x1⟩ := G3.out.cells
    go_wp2_with (go_at_call 20; refine (HRV.out _ G3.out.edges).mono ?_; rintro e w4 ⟨rfl, hb4⟩; have HB := Nu.hid (G3.out.later hb4).low; clear hb4)
    go_ret
    exact ⟨rfl, HB.out⟩
  | true =>
    have hval := Si.valid_iff.1 hv
    have hfew := hval.few
    have hhi := hval.hi
    obtain ⟨n, rfl⟩ : ∃ m : Nat, n = (m : Int) := ⟨n.toNat, by have := hval.lo; omega⟩
    have HCU : Hid (∀ a c W, EdgesAt W a es → Calls Try.prog 13 #[.agg #[.int .i64 (n : Int), .slice a es.length c]] W (LiS (Bl.cu9 n es) W)) := fun a c W h => pcuts_is n a c es W h (by omega)
    rw [Bl.cu9_t hv, Int.toNat_natCast] at HCU
    rw [hv] at HRV
    have HVAL := Nu.hid hval
    have hctl : Bl.ct9 es ≤ es.length := Bl.cntB_le _ _
    clear hq hG0 hv hval
    go_enter Try.func5, Try.ntmps5
    go_wp2_with (go_at_call 8; refine (wakes_any _).mono ?_; rintro e w1 ⟨rfl, hb⟩; refine Hid.out ?_)
    refine Nu.hid ?_
    have G1 := Nu.hid (HG0.out.later hb)
    obtain ⟨x0, x1⟩ := G1.out.cells
    clear hb HG0
    go_wp2_with (first
      | (go_at_call 10; refine (G1.out.copy hle').mono ?_; rintro e w2 ⟨a2, c2, rfl, he2, hb2⟩; have HE := Nu.hid he2; have G2 := Nu.hid (G1.out.later hb2); clear he2 hb2)
      | (go_at_call 9; refine (of_vf HE.out HVAL.out).mono ?_; rintro e w3 ⟨g3, rfl, hi3, ⟨s, hvf⟩, hb3⟩; have HI3 := Nu.hid hi3; have HVF := Nu.hid hvf; have G3 := Nu.hid (G2.out.later hb3); clear hi3 hvf hb3; refine Hid.out ?_))
    refine Nu.hid ?_
    clear x0 x1 HE G1 G2
    obtain ⟨x0, x1⟩ := G3.out.cells
    go_wp2_with (go_at_call 20; refine (HRV.out _ G3.out.edges).mono ?_; rintro e w4 ⟨rfl, hb4⟩; refine Hid.out ?_)
    refine Nu.hid ?_
    have G4 := Nu.hid (G3.out.later hb4)
    have HI4 := Nu.hid (HI3.out.later hb4)
    clear x0 x1 hb4 G3 HI3
    obtain ⟨x0, x1⟩ := G4.out.cells
    go_wp2
    clear x0 x1
    go_loopw [6, 7] (fun bv cv wr => ∃ i : Nat, i ≤ es.length ∧ cv = .int .i64 (i : Int) ∧ bv = .int .i64 (Bl.cntB (Bl.m9 es) i : Int) ∧ wr = w4) (fun _ cv _ => es.length - (intOf cv).toNat)
    case atStart => exact ⟨0, Nat.zero_le _, rfl, rfl, rfl⟩
    case round =>
      obtain ⟨i, hil, rfl, rfl, hwr⟩ := hrel
      obtain rfl := hwr.symm
      clear hwr
      by_cases hin : i < es.length
      · have hlti : (i : Int) < (es.length : Int) := by omega
        have hi0 : (0 : Int) ≤ (i : Int) := by omega
        obtain ⟨nb, no', eno, d0⟩ := HI4.out i _ (Bl.nums_at (f := Bl.no9 es) hin)
        cases eno
        rw [Nat.zero_add] at d0
        have hb1 := Bl.cntB_le (Bl.m9 es) i
        by_cases hm : Bl.m9 es i = i
        · obtain ⟨k1, k2⟩ := Bl.begin_yes hm
          rw [k1] at d0
          have HK2 := Nu.hid k2
          obtain ⟨b, hbe⟩ : ∃ b, Bl.cntB (Bl.m9 es) i = b := ⟨_, rfl⟩
          rw [hbe] at d0 HK2 hb1 ⊢
          clear hm k1 k2 hbe
          go_wp2
          go_roundw
          case rel => exact ⟨i + 1, by omega, by go_num, by rw [HK2.out]; go_num, by first | rfl | trivial⟩
          case measure => simp [intOf]; omega
        · obtain ⟨k1, k2⟩ := Bl.begin_no hin hm
          have HK2 := Nu.hid k2
          obtain ⟨b, hbe⟩ : ∃ b, Bl.cntB (Bl.m9 es) i = b := ⟨_, rfl⟩
          obtain ⟨x, hxe⟩ : ∃ x, Bl.no9 es i = x := ⟨_, rfl⟩
          rw [hbe] at HK2 hb1 k1 ⊢
          rw [hxe] at d0 k1
          have hd : ((x : Int) == (b : Int)) = false := by simp; omega
          clear hm k2 hbe hxe
          go_wp2
          go_roundw
          case rel => exact ⟨i + 1, by omega, by go_num, by rw [HK2.out], by first | rfl | trivial⟩
          case measure => simp [intOf]; omega
      · have hlti : ¬ (i : Int) < (es.length : Int) := by omega
        obtain rfl : i = es.length := by omega
        obtain ⟨C, hC⟩ : ∃ C, Bl.ct9 es = C := ⟨_, rfl⟩
        have hC' : Bl.cntB (Bl.m9 es) es.length = C := hC
        have HEN : Hid (Calls Try.prog 21 #[.agg #[.int .i64 (n : Int), .slice ao es.length ca], .slice (some ⟨g3, 0, none⟩) es.length es.length] w4 fun e w' => ∃ g, e = .returned (.slice (some ⟨g, 0, none⟩) n n) ∧ IntsBlk w' g (Bl.nums n fun v => Bl.inB es (Bl.no9 es) (v : Int) C) ∧ Below w4.heap.size w4 w') := (ends_any9 n ao ca es (some ⟨g3, 0, none⟩) es.length (Bl.no9 es) w4 G4.out.edges hfew (by omega) HI4.out).mono (by
          rintro e w' ⟨g, h1, h2, h3⟩
          refine ⟨g, h1, ?_, h3⟩
          rw [← hC, Bl.nums_congr (f := fun v => Bl.inB es (Bl.no9 es) (v : Int) (Bl.ct9 es)) (g := fun v => (Bl.seenTo es (Bl.no9 es) (v : Int) es.length).length) fun v hv => (Bl.seenTo_all fun e he => Bl.no9_lt he).symm]
          exact h2)
        have hts := Bl.tree_sum HVAL.out HVF.out
        rw [hC] at hts HCU hctl ⊢
        rw [hC']
        have hK1 : Co.cnt n (Co.ofG n es) ≤ n := Co.cntTo_le _ _
        have hK2 : Co.iso n es ≤ n := Co.cntTo_le _ _
        have HCO : Hid (∀ a c W, EdgesAt W a es → Calls Try.prog 22 #[.agg #[.int .i64 (n : Int), .slice a es.length c]] W fun e w' => ∃ ao k c, e = .returned (.tuple #[.slice ao k c, .int .i64 (Co.cnt n (Co.ofG n es) : Int), .int .i64 0]) ∧ Below W.heap.size W w') := fun a c W h => comps_yes h HVAL.out
        have HIS : Hid (∀ a c W, EdgesAt W a es → Calls Try.prog 23 #[.agg #[.int .i64 (n : Int), .slice a es.length c]] W fun e w' => e = .returned (.tuple #[.int .i64 (Co.iso n es : Int), .int .i64 0]) ∧ Below W.heap.size W w') := fun a c W h => iso_yes h HVAL.out
        obtain ⟨K1, hk1⟩ : ∃ K, Co.cnt n (Co.ofG n es) = K := ⟨_, rfl⟩
        obtain ⟨K2, hk2⟩ : ∃ K, Co.iso n es = K := ⟨_, rfl⟩
        rw [hk1] at hts hK1 HCO
        rw [hk2] at hts hK2 HIS
        obtain ⟨I, hI⟩ : ∃ I : Nat → Nat, (fun v : Nat => Bl.inB es (Bl.no9 es) (v : Int) C) = I := ⟨_, rfl⟩
        have hIe : ∀ v : Nat, Bl.inB es (Bl.no9 es) (v : Int) C = I v := fun v => congrFun hI v
        have hIl : ∀ v, I v ≤ C := fun v => by rw [← hIe]; exact Bl.inB_le _ _ _ _
        have hts' : (Bl.sumTo (fun v => I v - 1) n : Int) = (C : Int) - ((K1 : Int) - (K2 : Int)) := by
          have e : Bl.sumTo (fun v => I v - 1) n = Bl.sumTo (fun v => Bl.inB es (Bl.no9 es) (v : Int) C - 1) n := Bl.sumTo_congr n (fun v _ => by rw [hIe])
          rw [e]
          exact hts
        have HTS := Nu.hid hts'
        have HCT : Hid (Bl.cutsTo es (Bl.no9 es) C n = ((List.range n).filter fun v => decide (1 < I v)).map fun v : Nat => (v : Int)) := by
          show _ = _
          unfold Bl.cutsTo
          congr 1
          exact List.filter_congr fun v _ => by rw [hIe]
        rw [HCT.out] at HCU
        rw [hI] at HEN
        obtain ⟨L, hL⟩ : ∃ L, (((List.range n).filter fun v => decide (1 < I v)).map fun v : Nat => (v : Int)) = L := ⟨_, rfl⟩
        have HLA : Hid (∀ v, v < n → 1 < I v → L[Co.cntTo (fun v => decide (1 < I v)) v]? = some (v : Int)) := fun v hv h1 => by
          rw [← hL, List.getElem?_map, Bl.filter_get (fun v => decide (1 < I v)) hv (by simpa using h1)]
          rfl
        have HLL : Hid (L.length = Co.cntTo (fun v => decide (1 < I v)) n) := by
          show _ = _
          rw [← hL, List.length_map, Bl.filter_len]
        have hLn : L.length ≤ n := by rw [HLL.out]; exact Co.cntTo_le _ _
        rw [hL] at HCU
        have HIL := Nu.hid hIl
        clear hts hts' hIe hI hC hC' hk1 hk2 hL hIl HI4 HVF HVAL HCT
        have hCl : C ≤ 4194304 := by omega
        obtain ⟨x0, x1⟩ := G4.out.cells
        go_wp2_with (go_at_call 21; refine HEN.out.mono ?_; rintro e w5 ⟨g5, rfl, hi5, hb5⟩; refine Hid.out ?_)
        refine Nu.hid ?_
        have G5 := Nu.hid (G4.out.later hb5)
        have HI5 := Nu.hid hi5
        clear x0 x1 hb5 hi5 G4 HEN
        obtain ⟨x0, x1⟩ := G5.out.cells
        go_wp2_with (first
          | (go_at_call 10; refine (G5.out.copy hle').mono ?_; rintro e w6 ⟨a6, c6, rfl, he6, hb6⟩; have HE := Nu.hid he6; have G6 := Nu.hid (G5.out.later hb6); have HI6 := Nu.hid (HI5.out.later hb6); clear he6 hb6)
          | (go_at_call 13; refine (HCU.out _ _ _ HE.out).mono ?_; rintro e w7 ⟨a7, c7, rfl, ho, hb7⟩; have HL := Nu.hid ho.at; have G7 := Nu.hid (G6.out.later hb7); have HI7 := Nu.hid (HI6.out.later hb7); clear ho hb7; refine Hid.out ?_))
        refine Nu.hid ?_
        try dsimp only
        clear x0 x1 HE G5 G6 HI5 HI6
        obtain ⟨x0, x1⟩ := G7.out.cells
        have hsm := Bl.sumTo_most (g := fun v => I v - 1) (B := 4194304) (fun a => by have := HIL.out a; omega)
        have HSM := Nu.hid hsm
        clear hsm
        go_wp2
        go_loopw [11, 12, 13] (fun sv av cv wr => ∃ v : Nat, v ≤ n ∧ cv = .int .i64 (v : Int) ∧ av = .int .i64 (Co.cntTo (fun v => decide (1 < I v)) v : Int) ∧ sv = .int .i64 (Bl.sumTo (fun v => I v - 1) v : Int) ∧ wr = w7) (fun _ _ cv _ => n - (intOf cv).toNat)
        case atStart => exact ⟨0, Nat.zero_le _, rfl, rfl, rfl, rfl⟩
        case round =>
          obtain ⟨v, hvn, rfl, rfl, rfl, hwr⟩ := hrel
          obtain rfl := hwr.symm
          clear hwr
          have hb1 := Co.cntTo_le (fun v => decide (1 < I v)) v
          have hsm := HSM.out v
          have hsm2 : v * 4194304 ≤ 4398046511104 := by omega
          by_cases hlt : v < n
          · have hlti : (v : Int) < (n : Int) := by omega
            have hv0 : (0 : Int) ≤ (v : Int) := by omega
            have d0 := HI7.out.cell (Bl.nums_at (f := I) hlt)
            have hI1 := HIL.out v
            have HS1 : Hid (Bl.sumTo (fun v => I v - 1) (v + 1) = Bl.sumTo (fun v => I v - 1) v + (I v - 1)) := rfl
            have HC1 : Hid (Co.cntTo (fun v => decide (1 < I v)) (v + 1) = Co.cntTo (fun v => decide (1 < I v)) v + (if decide (1 < I v) = true then 1 else 0)) := rfl
            have hlat := HLA.out v hlt
            obtain ⟨S, hS⟩ : ∃ S, Bl.sumTo (fun v => I v - 1) v = S := ⟨_, rfl⟩
            obtain ⟨A, hA⟩ : ∃ A, Co.cntTo (fun v => decide (1 < I v)) v = A := ⟨_, rfl⟩
            obtain ⟨x, hx⟩ : ∃ x, I v = x := ⟨_, rfl⟩
            rw [hS] at HS1 hsm ⊢
            rw [hA] at HC1 hb1 hlat ⊢
            rw [hx] at d0 hI1 HS1 HC1 hlat
            clear hS hA hx
            by_cases h1 : 1 < x
            · obtain ⟨cb, co, ea7, e0⟩ := HL.out A (v : Int) (hlat h1)
              subst ea7
              have hAl : A < L.length := (List.getElem?_eq_some_iff.1 (hlat h1)).1
              have hA0 : (0 : Int) ≤ (A : Int) := by omega
              have hA1 : (A : Int) < (L.length : Int) := by omega
              have h1i : (1 : Int) < (x : Int) := by omega
              have h0i : (0 : Int) < (x : Int) := by omega
              rw [if_pos (by simpa using h1)] at HC1
              clear hlat
              go_wp2
              go_roundw
              case rel => exact ⟨v + 1, by omega, by go_num, by rw [HC1.out]; go_num, by rw [HS1.out]; go_num, by first | rfl | trivial⟩
              case measure => simp [intOf]; omega
            · have h1i : ¬ (1 : Int) < (x : Int) := by omega
              rw [if_neg (by simpa using h1)] at HC1
              clear hlat
              by_cases h0 : 0 < x
              · have h0i : (0 : Int) < (x : Int) := by omega
                go_wp2
                go_roundw
                case rel => exact ⟨v + 1, by omega, by go_num, by rw [HC1.out]; go_num, by rw [HS1.out]; go_num, by first | rfl | trivial⟩
                case measure => simp [intOf]; omega
              · have h0i : ¬ (0 : Int) < (x : Int) := by omega
                go_wp2
                go_roundw
                case rel => exact ⟨v + 1, by omega, by go_num, by rw [HC1.out]; go_num, by rw [HS1.out]; go_num, by first | rfl | trivial⟩
                case measure => simp [intOf]; omega
          · have hlti : ¬ (v : Int) < (n : Int) := by omega
            obtain rfl : v = n := by omega
            rw [HTS.out, ← HLL.out]
            clear hb1 hsm
            go_wp2_with (first
              | (go_at_call 10; refine (G7.out.copy hle').mono ?_; rintro e w8 ⟨a8, c8, rfl, he8, hb8⟩; have HE := Nu.hid he8; have G8 := Nu.hid (G7.out.later hb8); clear he8 hb8)
              | (go_at_call 22; refine (HCO.out _ _ _ HE.out).mono ?_; rintro e w9 ⟨a9, k9, c9, rfl, hb9⟩; have G9 := Nu.hid (G8.out.later hb9); clear hb9; refine Hid.out ?_))
            refine Nu.hid ?_
            clear x0 x1 HE G7 G8
            obtain ⟨x0, x1⟩ := G9.out.cells
            go_wp2_with (first
              | (go_at_call 10; refine (G9.out.copy hle').mono ?_; rintro e w10 ⟨a10, c10, rfl, he10, hb10⟩; have HE := Nu.hid he10; have G10 := Nu.hid (G9.out.later hb10); clear he10 hb10)
              | (go_at_call 23; refine (HIS.out _ _ _ HE.out).mono ?_; rintro e w11 ⟨rfl, hb11⟩; have G11 := Nu.hid (G10.out.later hb11); clear hb11; refine Hid.out ?_))
            refine Nu.hid ?_
            clear x0 x1 HE G9 G10
            go_wp2
            go_ret
            exact ⟨by simp, G11.out.low⟩
set_option maxRecDepth 100000 in
/-- What the walk gives, for every argument and every world. -/
theorem contract (H : Type) (enc : TypeId × Value → H) (W : World) (base : Nat) (args : Array Value) (ds gs : List (DataW H)) (before : List MemPlace)
    (hval : ∀ (j : Nat) t v, Try.f5.params[j]? = some t → args[j]? = some v → Value.okWide Try.prog W .any base t v)
    (hW : DataW.Whole enc Try.prog Try.f5.params.toList Rows.blocksTreeSpec.vars false W args.toList ds gs before)
    (hsz : (DataW.weightsEach Try.prog (Try.f5.params.toList ++ (OpenSpec.ofChange Rows.blocksTreeSpec).bare.plain.varTypes Try.prog) (ds ++ gs)).all (· ≤ reachBytes) = true)
    :
    Calls Try.prog 5 args W fun e W' => ∃ v, e = .returned v ∧ Rows.blocksTreeSpec.post enc Try.prog Try.f5 false true false false W args v W' := by
  have hW' := hW
  obtain ⟨p, q, hA0, hV, rfl, hfz, hnd⟩ := hW
  have hA : DataW.TrodAll enc Try.prog W 0 (fun _ => true) true Try.f5.params.toList args.toList ds p := hA0
  rw [Try.params5] at hA hval hsz
  obtain ⟨v0, vs0, d0, ds0, p0, q0, hargs, rfl, rfl, h0, r0⟩ := trodAll_cons hA
  obtain ⟨rfl, rfl, rfl⟩ := trodAll_nil r0
  obtain rfl : args = #[v0] := by cases args; simp_all
  obtain ⟨rfl, rfl⟩ := trodVars_none hV
  have k0 := h0
  have lt0 : ∀ x ∈ p0, x.block < W.heap.size := by obtain ⟨m, hm⟩ := k0; exact DataW.trod_lt m _ _ _ hm
  obtain ⟨n0, a0, cap0, q0, rfl, x0, w0, u0⟩ := graph_of_trod (j := 0) (hval 0 24 v0 rfl rfl) h0 hsz rfl rfl
  clear hA0
  refine (walk n0 a0 cap0 q0 W x0 w0 u0).mono fun e W' ⟨he, bel⟩ => ?_
  subst he
  exact ⟨_, rfl, _, _, _, [], _, [], hW', trodAll_mk1 (shut_bool Try.underlying4 _), (trodAll_cons_mk (Below.trod laidOut (by kernel_rfl) (of_decide_eq_true (by kernel_rfl)) k0 bel lt0) trodAll_mk0), rfl, bel.frame _, fun h => by cases h⟩

theorem laid_met (os : Os) : laidMet Try.prog Rows.blocksTreeRow.laid ((settled os).forCall (fun _ _ => 0) ⟨#[], #[.agg #[.int .i64 0, .slice none 0 0]], []⟩).memory :=
  laidMet_of_run' 100 (by kernel_rfl) (by kernel_rfl)
theorem reads (os : Os) {H : Type} (enc : TypeId × Value → H) : ∃ places, DataW.whole enc Try.prog ((settled os).forCall (fun _ _ => 0) ⟨#[], #[.agg #[.int .i64 0, .slice none 0 0]], []⟩).memory Try.f5.params.toList Rows.blocksTreeSpec.vars false (#[.agg #[.int .i64 0, .slice none 0 0]] : Array Value).toList 8 = some ([.agg [.lit (.int .i64 0), .nil]], [], places) :=
  ⟨[], by kernel_rfl⟩

set_option maxRecDepth 100000 in
theorem lifted (os : Os) (started : os.Started) (H : Type) (enc : TypeId × Value → H) (F : Stop.Interp) :
    ReturnsInHanded {} Try.checked os 5 .any ((OpenSpec.ofChange Rows.blocksTreeSpec).preRow enc Try.prog Try.f5 Rows.blocksTreeRow.domain false Rows.blocksTreeRow.laid) (((OpenSpec.ofChange Rows.blocksTreeSpec).at F).post enc Try.prog Try.f5 false true false false) := by
  obtain ⟨places, hx⟩ := reads os enc
  refine returnsInHanded_of_row (C := Try.checked) (s := (OpenSpec.ofChange Rows.blocksTreeSpec)) own started (by kernel_rfl) Try.func5
    (witness_row_at (enc := enc) (C := Try.checked) false (settled os) #[.agg #[.int .i64 0, .slice none 0 0]] rfl (by kernel_rfl) (by kernel_rfl) (by kernel_rfl)
      (OpenSpec.preRow_of_cond 8 hx (by kernel_rfl) (fun k hk => by cases hk) (by kernel_rfl) (laid_met os))) ?_
  intro W base args ds gs before hval hW _ _ hsz _ _ _
  exact contract H enc W base args ds gs before hval hW hsz 

theorem said : Rows.BlocksTreeSaid :=
  OpenClaim.holds_of_cond 5 Try.f5 rfl rfl rfl rfl rfl rfl rfl ⟨rfl, rfl, rfl, rfl, rfl⟩ rfl rfl rfl rfl rfl (by kernel_rfl) Try.func5 (by kernel_rfl)
    (of_decide_eq_true (by kernel_rfl)) (by unfold Func.isWrapper; first | (rw [if_pos (by decide +kernel)]; kernel_rfl) | (rw [if_neg (by decide +kernel)]; exact ⟨rfl, rfl⟩))
    (fun os started H enc _ F => by rw [OpenClaim.pre_eq_preRow]; exact lifted os started H enc F)

end lawTree

theorem blocksTree_holds : Rows.BlocksTreeSaid := lawTree.said

#print axioms blocksTree_holds
end Go.Proofs.Ytalfpbalekbinaa
