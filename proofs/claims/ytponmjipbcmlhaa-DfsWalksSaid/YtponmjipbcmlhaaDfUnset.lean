/-
  So many numbers that nothing has been said of.
-/
import Derived.Test.YtponmjipbcmlhaaCoOwn
import Derived.Test.YtponmjipbcmlhaaKin
namespace Go.Proofs.Ytponmjipbcmlhaa
open Go.RowKit

set_option maxRecDepth 100000 in
set_option maxHeartbeats 4000000 in
theorem unset_any (n : Nat) (w : World) (hn : n ≤ 8388608) :
    Calls Try.prog 53 #[.int .i64 (n : Int)] w fun e w' => ∃ g, e = .returned (.slice (some ⟨g, 0, none⟩) n n) ∧ w.heap.size ≤ g ∧ IntsBlk w' g (List.replicate n (-1)) ∧ Below w.heap.size w w' := by
  obtain ⟨i0, hi, hz0, hz1, hz2⟩ := info_parts Try.infoNum
  go_enter Try.func53, Try.ntmps53
  go_wp2_with (at_make; refine wpList_make_full _ rfl _ _ 26 rfl w.heap.size 3 i0 (.int .i64 0) 1 Try.underlying26 hi hz0 hz1 _ _ _ _ n rfl rfl rfl rfl (by rw [hz2]; omega) (by unfold maxLen; omega) (Nat.le_refl _) ?_; refine Hid.out ?_)
  refine Nu.hid ?_
  intro w2 hrow hg2
  rw [made_zeros] at hrow
  have hik := ints_of_row hrow
  have hb2 : Below w.heap.size w w2 := (Below.refl _ _).grown hg2 (Nat.le_refl _) (fun j hj => by cases hj)
  have HI2 := Nu.hid hik
  have HB2 := Nu.hid hb2
  clear hrow hg2 hik hb2
  go_wp2
  go_loopw [9] (fun c wr => ∃ (k : Nat) (S : List Int), k ≤ n ∧ c = .int .i64 k ∧ S.length = n ∧ (∀ v, v < k → S[v]? = some (-1)) ∧ IntsBlk wr w.heap.size S ∧ Below w.heap.size w wr) (fun c _ => n - (intOf c).toNat)
  case atStart => exact ⟨0, _, Nat.zero_le _, rfl, by simp, fun v hv => by omega, HI2.out, HB2.out⟩
  case round =>
    obtain ⟨k, S, hk, rfl, hSl, hS, hiS, hb⟩ := hrel
    have hsz := hiS.lt
    have HS := Nu.hid hS
    have HIS := Nu.hid hiS
    have HB := Nu.hid hb
    by_cases hkn : k < n
    · have hk0 : (0 : Int) ≤ (k : Int) := by omega
      have hk1 : (k : Int) < (n : Int) := by omega
      obtain ⟨x, hx⟩ : ∃ x, S[k]? = some x := ⟨_, List.getElem?_eq_getElem (by omega)⟩
      have c0 := hiS.cell hx
      have c1 := hiS.free k
      have HN1 := Nu.hid (hiS.set k (-1))
      have HBN := Nu.hid (hb.setCell (p := ⟨w.heap.size, k, none⟩) (Nat.le_refl _) (.int .i64 (-1)))
      clear hS hiS hb hx
      go_wp2
      go_roundw
      case rel =>
        refine ⟨k + 1, S.set k (-1), by omega, by go_num, by simp [hSl], fun v hv => ?_, HN1.out, HBN.out⟩
        rw [List.getElem?_set]
        by_cases e : k = v
        · subst e
          rw [if_pos rfl, if_pos (by omega)]
        · rw [if_neg e]
          exact HS.out v (by omega)
      case measure => simp [intOf]; omega
    · have hd : ¬ ((k : Int) < (n : Int)) := by omega
      have e : S = List.replicate n (-1) := by
        refine List.ext_getElem? fun v => ?_
        by_cases hv : v < n
        · rw [hS v (by omega), List.getElem?_replicate, if_pos hv]
        · rw [List.getElem?_eq_none (by omega), List.getElem?_eq_none (by simp; omega)]
      subst e
      clear hS hiS hb
      go_wp2
      go_ret
      exact ⟨w.heap.size, rfl, Nat.le_refl _, HIS.out, HB.out⟩

end Go.Proofs.Ytponmjipbcmlhaa
