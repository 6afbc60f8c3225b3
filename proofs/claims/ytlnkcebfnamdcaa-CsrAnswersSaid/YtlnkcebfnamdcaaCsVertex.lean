/-
  The statements' own 'vertex' and 'beyond'.
-/
import Derived.Test.YtlnkcebfnamdcaaCsOut
import Derived.Test.YtlnkcebfnamdcaaCsHalf
import Derived.Test.YtlnkcebfnamdcaaCsRefs
import Derived.Test.YtlnkcebfnamdcaaCsSameI
import Derived.Deep.CutBlock
import Derived.Deep.CutRange
namespace Go.Proofs.Ytlnkcebfnamdcaa
open Go.RowKit Go.Sort

theorem outz_own {w : World} {B : Nat} {v : Value} {l : List Int} (h : OwnZ w B v l) : ∃ ao cap, v = .slice ao l.length cap ∧ IntsAt w ao l := by
  have h' := h
  rcases h.2 with ⟨rfl, h0⟩ | ⟨g, cap, cur, rfl, hg, hh, _⟩
  · refine ⟨none, 0, by rw [h0], fun j x hj => ?_⟩
    rw [List.length_eq_zero_iff.1 h0] at hj
    simp at hj
  · refine ⟨_, cap, rfl, fun j x hj => ⟨g, 0, rfl, ?_⟩⟩
    rw [Nat.zero_add]
    exact (ints_in_row h').cell hj

set_option maxRecDepth 100000 in
set_option maxHeartbeats 4000000 in
theorem vertex_any (v : Value) (n : Nat) (es : List (Int × Int)) (x : Int) (al : Option Addr) (cl : Nat) (w : World) (h : IsAdj w v n es) (hat : IntsAt w al (Cs.outZ n es x)) :
    Calls Try.prog 13 #[v, .int .i64 x, .slice al (Cs.outZ n es x).length cl] w fun e w' => e = .returned (.bool true) ∧ Below w.heap.size w w' := by
  obtain ⟨q, rfl⟩ := h.ptr
  have hbd := h.bounds
  obtain ⟨Z, hZ⟩ : ∃ Z, Z = Cs.outZ n es x := ⟨_, rfl⟩
  obtain ⟨L, hL⟩ : ∃ L, L = Z.length := ⟨_, rfl⟩
  have hzl : L ≤ 8388608 := by
    rw [hL, hZ, Cs.outZ_len]
    have := Cs.outI_len_le (n := n) (es := es) (v := x)
    omega
  rw [← hZ] at hat ⊢
  rw [← hL]
  have hout := out_any _ n es x (L : Int) w h
  unfold OutPost at hout
  rw [← hZ, List.take_of_length_le (by omega)] at hout
  have HOUT : Hid (Calls Try.prog 20 #[.pointer q, .int .i64 x, .int .i64 (L : Int)] w fun e w' => ∃ a4 c4, e = .returned (.tuple #[.slice a4 L c4, .bool true]) ∧ IntsAt w' a4 Z ∧ Below w.heap.size w w') := hout.mono (by
    rintro e w' ⟨v4, he, hz4, hb4⟩
    obtain ⟨a4, c4, rfl, hat4⟩ := outz_own hz4
    rw [← hL] at he
    exact ⟨a4, c4, he, hat4, hb4⟩)
  have hsame : ∀ W a4 c4, Below w.heap.size w W → IntsAt W a4 Z → Calls Try.prog 27 #[.slice a4 L c4, .slice al L cl] W fun e w' => e = .returned (.bool true) ∧ Below W.heap.size W w' := fun W a4 c4 hb h4 => by
    have := sameints_any a4 al c4 cl L L Z Z W hL.symm hL.symm h4 (hat.later hb) (by omega)
    rw [decide_eq_true rfl] at this
    exact this
  have hdeg : ∀ W, Below w.heap.size w W → Calls Try.prog 21 #[.pointer q, .int .i64 x] W fun e w' => e = .returned (.int .i64 (L : Int)) ∧ w' = W := fun W hb => by
    have := degree_any _ n es x W (h.later hb)
    rw [show (Cs.outI n es x).length = L by rw [hL, hZ, Cs.outZ_len]] at this
    exact this
  have hfst : ∀ W, Below w.heap.size w W → Calls Try.prog 22 #[.pointer q, .int .i64 x] W fun e w' => e = .returned (.int .i64 (Z.getD 0 (-1))) ∧ ∃ k, w' = W.drewN k := fun W hb => by
    have := first_any _ n es x W (h.later hb)
    unfold Cs.firstI at this
    rw [← hZ] at this
    exact this
  have HSAME := Nu.hid hsame
  have HDEG := Nu.hid hdeg
  have HFST := Nu.hid hfst
  have HAT := Nu.hid hat
  have HL := Nu.hid hL
  have t1 : ((L : Int) != (L : Int)) = false := by simp
  clear hout hsame hdeg hfst hat hL hZ h hbd
  go_enter Try.func13, Try.ntmps13
  go_wp2_with (go_at_call 20; refine HOUT.out.mono ?_; rintro e w1 ⟨a4, c4, rfl, hat1, hb1⟩; refine Hid.out ?_)
  refine Nu.hid ?_
  have HS1 := Nu.hid (HSAME.out w1 a4 c4 hb1 hat1)
  have HB1 := Nu.hid hb1
  clear hat1 hb1 HOUT HSAME
  go_wp2_with (go_at_call 27; refine HS1.out.mono ?_; rintro e w2 ⟨rfl, hb2⟩; refine Hid.out ?_)
  refine Nu.hid ?_
  have HB2 := Nu.hid (HB1.out.trans (hb2.mono HB1.out.size))
  have HD2 := Nu.hid (HDEG.out w2 HB2.out)
  clear hb2 HS1 HB1 HDEG
  cases Z with
  | nil =>
    have hL0 : L = 0 := HL.out
    subst hL0
    go_wp2_with (first | (go_at_call 21; refine HD2.out.mono ?_; rintro e w3 ⟨rfl, rfl⟩) | (go_at_call 22; refine (HFST.out _ HB2.out).mono ?_; rintro e w4 ⟨rfl, k, hw4⟩; refine Hid.out ?_))
    refine Nu.hid ?_
    clear hw4
    go_wp2
    go_ret
    exact ⟨rfl, below_drewN HB2.out _⟩
  | cons z Z =>
    have hLp : (0 : Int) < (L : Int) := by have := HL.out; simp at this; omega
    obtain ⟨b, o, rfl, hc⟩ := (HAT.out.later HB2.out) 0 z rfl
    rw [Nat.add_zero] at hc
    have t2 : (z == z) = true := by simp
    have hgd : (z :: Z).getD 0 (-1) = z := rfl
    rw [hgd] at HFST
    clear hgd
    go_wp2_with (first | (go_at_call 21; refine HD2.out.mono ?_; rintro e w3 ⟨rfl, rfl⟩) | (go_at_call 22; refine (HFST.out _ HB2.out).mono ?_; rintro e w4 ⟨rfl, k, hw4⟩; refine Hid.out ?_))
    refine Nu.hid ?_
    clear hw4
    go_wp2
    go_ret
    exact ⟨by first | rfl | simp, below_drewN HB2.out _⟩

end Go.Proofs.Ytlnkcebfnamdcaa
