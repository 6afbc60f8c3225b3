/-
  The document's own Group.
-/
import Derived.Test.YtofphdmebjcofaaBuRef
namespace Go.Proofs.Ytofphdmebjcofaa
open Go.RowKit Go.Sort

set_option maxRecDepth 100000 in
set_option maxHeartbeats 8000000 in
theorem rgroup_any (key : Int) (ao : Option Addr) (ca n : Nat) (ks : List Int) (w : World) (hl : n ≤ 17592186043904) (ha : Lst w ao n ca ks) :
    Calls Try.prog 15 #[.slice ao n ca, .int .i64 key] w fun e w' => ∃ v, e = .returned v ∧ OwnZ w' w.heap.size v (Bu.grp ks key) ∧ Below w.heap.size w w' := by
  have HA := Nu.hid ha.ints
  have HN := Nu.hid ha.len
  clear ha
  go_enter Try.func15, Try.ntmps15
  go_wp2
  go_loopw [5, 6] (fun v c wr => ∃ i : Nat, i ≤ n ∧ c = .int .i64 i ∧ OwnZ wr w.heap.size v (Bu.grpTo ks i key) ∧ Below w.heap.size w wr) (fun _ c _ => n - (intOf c).toNat)
  case atStart => exact ⟨0, Nat.zero_le _, rfl, OwnZ.nil _ _, Below.refl _ _⟩
  case round =>
    obtain ⟨i, hin, rfl, hown, hb⟩ := hrel
    have HOWN := Nu.hid hown
    have HB := Nu.hid hb
    have hsz := hb.size
    clear hown hb
    by_cases hlt : i < n
    · have hk0 : (0 : Int) ≤ (i : Int) := by omega
      have hk1 : (i : Int) < (n : Int) := by omega
      obtain ⟨x, hx⟩ : ∃ x, ks[i]? = some x := ⟨_, List.getElem?_eq_getElem (by have := HN.out; omega)⟩
      obtain ⟨b, o, rfl, ci⟩ := (HA.out.later HB.out) i x hx
      have hs := Bu.grpTo_succ ks i key
      rw [Bu.at_getD hx] at hs
      have hgl : (Bu.grpTo ks i key).length ≤ i := by
        rw [Bu.grpTo_length (by rw [HN.out]; omega)]
        exact Nat.le_trans List.count_le_length (by simp; omega)
      have HGL := Nu.hid hgl
      clear hx hgl
      by_cases h1 : x = key
      · have j1 : (x == key) = true := by simp [h1]
        rw [if_pos h1] at hs
        have HS := Nu.hid hs
        clear hs h1
        go_wp2_with (at_builtin; refine wpList_push rfl _ _ rfl _ w.heap.size _ (Bu.grpTo ks i key) (i : Int) HOWN.out hsz (Nat.le_trans HGL.out (by omega)) rfl rfl ?_; refine Hid.out ?_)
        refine Nu.hid ?_
        intro v' w5 ho5 hg5 hat5 hb5
        have HO5 := Nu.hid ho5
        have HB5 := Nu.hid (HB.out.trans hb5)
        clear ho5 hg5 hat5 hb5
        go_wp2
        go_roundw
        case rel => exact ⟨i + 1, by omega, by go_num, by rw [HS.out]; exact HO5.out, HB5.out⟩
        case measure => simp [intOf]; omega
      · have j1 : (x == key) = false := by simp [h1]
        rw [if_neg h1] at hs
        have HS := Nu.hid hs
        clear hs h1
        go_wp2
        go_roundw
        case rel => exact ⟨i + 1, by omega, by go_num, by rw [HS.out]; exact HOWN.out, HB.out⟩
        case measure => simp [intOf]; omega
    · have hd : ¬ ((i : Int) < (n : Int)) := by omega
      obtain rfl : i = n := by omega
      go_wp2
      go_ret
      refine ⟨_, rfl, ?_, HB.out⟩
      unfold Bu.grp
      rw [HN.out]
      exact HOWN.out

end Go.Proofs.Ytofphdmebjcofaa
