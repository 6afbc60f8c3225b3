/-
  The document's own SameInts.
-/
import Derived.Test.YtdhaaodalchpkaaMgB
import Derived.Deep.QuietTactic
import Derived.BigQuiet
namespace Go.Proofs.Ytdhaaodalchpkaa
open Go.RowKit

set_option maxRecDepth 100000 in
set_option maxHeartbeats 4000000 in
theorem sameints_any (ao bo : Option Addr) (ca cb n m : Nat) (l l' : List Int) (w : World) (hn : l.length = n) (hm : l'.length = m) (ha : IntsAt w ao l) (hb : IntsAt w bo l') (hl : n ≤ 4611686018427387904) :
    Calls Try.prog 23 #[.slice ao n ca, .slice bo m cb] w fun e w' => e = .returned (.bool (decide (l = l'))) ∧ Below w.heap.size w w' := by
  have HA := Nu.hid ha
  have HB := Nu.hid hb
  have HN := Nu.hid hn
  have HM := Nu.hid hm
  clear ha hb
  by_cases hll : n = m
  · have j1 : ((n : Int) != (m : Int)) = false := by simp [hll]
    have HLL := Nu.hid hll
    have hnm : (n : Int) = (m : Int) := by omega
    clear hll hn hm
    go_enter Try.func23, Try.ntmps23
    have HNM := Nu.hid hnm
    clear hnm
    go_wp2
    go_loopw [5] (fun c wr => ∃ k : Nat, k ≤ n ∧ c = .int .i64 k ∧ (∀ j, j < k → l[j]? = l'[j]?) ∧ Below w.heap.size w wr) (fun c _ => n - (intOf c).toNat)
    case atStart => exact ⟨0, Nat.zero_le _, rfl, fun j h => by omega, Below.refl _ _⟩
    case round =>
      obtain ⟨k, hk, rfl, hsame, hbw⟩ := hrel
      have HSAME := Nu.hid hsame
      have HBW := Nu.hid hbw
      clear hsame
      by_cases hlt : k < n
      · have hlti : (k : Int) < (n : Int) := by omega
        have hk0 : (0 : Int) ≤ (k : Int) := by omega
        have hlm : (k : Int) < (m : Int) := by have := HNM.out; omega
        obtain ⟨x, hx⟩ : ∃ x, l[k]? = some x := ⟨_, List.getElem?_eq_getElem (by have := HN.out; omega)⟩
        obtain ⟨y, hy⟩ : ∃ y, l'[k]? = some y := ⟨_, List.getElem?_eq_getElem (by have := HM.out; omega)⟩
        obtain ⟨b, o, rfl, c0⟩ := (HA.out.later hbw) k x hx
        obtain ⟨b', o', rfl, d0⟩ := (HB.out.later hbw) k y hy
        have hbl : b < wr.heap.size := block_lt_of_cell c0
        have hbl' : b' < wr.heap.size := block_lt_of_cell d0
        have HX := Nu.hid hx
        have HY := Nu.hid hy
        clear hx hy hbw
        by_cases e1 : x = y
        · have t1 : (x != y) = false := by simp [e1]
          have HXY := Nu.hid e1
          clear e1
          go_wp2_with fail
          go_quiet (fail)
          go_wp2
          go_roundw
          case rel =>
            refine ⟨k + 1, by omega, by go_num, fun j hj => ?_, below_drewN HBW.out _⟩
            by_cases hjk : j = k
            · subst hjk; rw [HX.out, HY.out, HXY.out]
            · exact HSAME.out j (by omega)
          case measure => simp [intOf]; omega
        · have t1 : (x != y) = true := by simp [e1]
          have hv : decide (l = l') = false := by
            simp only [decide_eq_false_iff_not]
            intro h
            rw [h, HY.out] at HX
            cases HX.out
            exact e1 rfl
          have HV := Nu.hid hv
          clear hv
          go_wp2_with fail
          go_quiet (fail)
          go_wp2
          go_ret
          exact ⟨by rw [HV.out]; rfl, below_drewN HBW.out _⟩
      · have hd : ¬ ((k : Int) < (n : Int)) := by omega
        have hv : decide (l = l') = true := by
          simp only [decide_eq_true_eq]
          refine List.ext_getElem? fun j => ?_
          by_cases hj : j < k
          · exact HSAME.out j hj
          · rw [List.getElem?_eq_none (by have := HN.out; omega), List.getElem?_eq_none (by have := HM.out; have := HLL.out; omega)]
        have HV := Nu.hid hv
        clear hv hbw
        go_wp2
        go_ret
        exact ⟨by rw [HV.out]; rfl, HBW.out⟩
  · have j1 : ((n : Int) != (m : Int)) = true := by simp; omega
    have hv : decide (l = l') = false := by
      simp only [decide_eq_false_iff_not]
      intro h
      rw [h] at hn
      omega
    rw [hv]
    clear hll hn hm hv
    go_enter Try.func23, Try.ntmps23
    go_wp2
    go_ret
    exact ⟨rfl, Below.refl _ _⟩

end Go.Proofs.Ytdhaaodalchpkaa
