/-
  slices.Max of ints.
-/
import Derived.Test.YtofphdmebjcofaaDoorIntsA
import Derived.Test.YtofphdmebjcofaaDoorBuA
import Derived.Deep.QuietTactic
import Derived.BigQuiet
namespace Go.Proofs.YtofphdmebjcofaaDoor
open Go.RowKit

/-- m is the greatest of the first k. -/
def Bu.Max (l : List Int) (k : Nat) (m : Int) : Prop := (∃ j, j < k ∧ l[j]? = some m) ∧ ∀ (j : Nat) (z : Int), j < k → l[j]? = some z → z ≤ m

theorem Bu.Max.more {l : List Int} {k : Nat} {m y : Int} (h : Bu.Max l k m) (hy : l[k]? = some y) : Bu.Max l (k + 1) (if y > m then y else m) := by
  obtain ⟨⟨j, hj, e⟩, h2⟩ := h
  by_cases c : y > m
  · rw [if_pos c]
    refine ⟨⟨k, by omega, hy⟩, fun i z hi hz => ?_⟩
    by_cases hk : i = k
    · subst hk; rw [hy] at hz; cases hz; exact Int.le_refl _
    · have := h2 i z (by omega) hz; omega
  · rw [if_neg c]
    refine ⟨⟨j, by omega, e⟩, fun i z hi hz => ?_⟩
    by_cases hk : i = k
    · subst hk; rw [hy] at hz; cases hz; omega
    · exact h2 i z (by omega) hz

set_option maxRecDepth 100000 in
set_option maxHeartbeats 4000000 in
theorem max_any (ao : Option Addr) (ca n : Nat) (l : List Int) (w : World) (hn : l.length = n) (h0 : 0 < n) (hl : n ≤ 17592186043904) (ha : IntsAt w ao l) :
    Calls Tryd.prog 25 #[.slice ao n ca] w fun e w' => ∃ m, e = .returned (.int .i64 m) ∧ Bu.Max l n m ∧ w' = w := by
  obtain ⟨x, hx⟩ : ∃ x, l[0]? = some x := ⟨_, List.getElem?_eq_getElem (by omega)⟩
  obtain ⟨b, o, rfl, c0⟩ := ha 0 x hx
  have HA := Nu.hid ha
  have HN := Nu.hid hn
  have HX := Nu.hid hx
  have i0 : (0 : Int) < (n : Int) := by omega
  have i1 : ¬ ((n : Int) < 1) := by omega
  rw [Nat.add_zero] at c0
  clear ha hn hx
  go_enter Tryd.func25, Tryd.ntmps25
  go_wp2
  go_loopw [3, 4] (fun mv c wr => ∃ (k : Nat) (m : Int), 0 < k ∧ k ≤ n ∧ c = .int .i64 k ∧ mv = .int .i64 m ∧ Bu.Max l k m ∧ wr = w) (fun _ c _ => n - (intOf c).toNat)
  case atStart => exact ⟨1, x, by omega, by omega, rfl, rfl, ⟨⟨0, by omega, HX.out⟩, fun j z hj hz => by
    obtain rfl : j = 0 := by omega
    rw [HX.out] at hz
    cases hz
    exact Int.le_refl _⟩, rfl⟩
  case round =>
    obtain ⟨k, m, hk0, hk, rfl, rfl, hm, rfl⟩ := hrel
    have HM := Nu.hid hm
    clear hm
    by_cases hlt : k < n
    · have hlti : (k : Int) < (n : Int) := by omega
      have hki : (0 : Int) ≤ (k : Int) := by omega
      obtain ⟨y, hy⟩ : ∃ y, l[k]? = some y := ⟨_, List.getElem?_eq_getElem (by have := HN.out; omega)⟩
      obtain ⟨b', o', e', ck⟩ := HA.out k y hy
      cases e'
      have HY := Nu.hid hy
      clear hy
      obtain ⟨q, hq⟩ : ∃ q, q = (if y > m then y else m) := ⟨_, rfl⟩
      have HQ := Nu.hid (HM.out.more HY.out)
      rw [← hq] at HQ
      go_wp2
      rw [← hq]
      go_roundw
      case rel => exact ⟨k + 1, q, by omega, by omega, by go_num, rfl, HQ.out, trivial⟩
      case measure => simp [intOf]; omega
    · have hd : ¬ ((k : Int) < (n : Int)) := by omega
      obtain rfl : k = n := by omega
      go_wp2
      go_ret
      exact ⟨m, rfl, HM.out, rfl⟩

end Go.Proofs.YtofphdmebjcofaaDoor
