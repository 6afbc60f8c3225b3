/-
  The number of each number's set; the components of a graph; isolated vertices.
-/
import Derived.Test.YtalfpbalekbinaaCoNew
import Derived.Test.YtalfpbalekbinaaMg12
namespace Go.Proofs.Ytalfpbalekbinaa
open Go.RowKit

namespace Co
/-- Is it the least of its set? -/
def fix (m : Nat → Nat) (i : Nat) : Bool := decide (m i = i)
/-- The number of a's set. -/
def num (m : Nat → Nat) (a : Nat) : Nat := cntTo (fix m) (m a)
theorem cnt_fix (n : Nat) (m : Nat → Nat) : cntTo (fix m) n = cnt n m := rfl
theorem num_self {m : Nat → Nat} {a : Nat} (h : m a = a) : num m a = cntTo (fix m) a := by unfold num; rw [h]
theorem num_least {n : Nat} {m : Nat → Nat} (hn : Norm n m) {a : Nat} (ha : a < n) : num m (m a) = num m a := by unfold num; rw [hn.idem a ha]
theorem fix_succ_yes {m : Nat → Nat} {a : Nat} (h : m a = a) : cntTo (fix m) (a + 1) = cntTo (fix m) a + 1 := by
  conv => lhs; unfold cntTo
  rw [if_pos (by simpa [fix] using h)]
theorem fix_succ_no {m : Nat → Nat} {a : Nat} (h : m a ≠ a) : cntTo (fix m) (a + 1) = cntTo (fix m) a := by
  conv => lhs; unfold cntTo
  rw [if_neg (by simpa [fix] using h)]
  rfl
theorem leastI_in {n : Nat} {m : Nat → Nat} {a : Nat} (h : a < n) : leastI n m (a : Int) = (m a : Int) := by
  unfold leastI
  rw [if_pos ⟨by omega, by omega⟩, Int.toNat_natCast]
theorem sizeI_in {n : Nat} {m : Nat → Nat} {a : Nat} (h : a < n) : sizeI n m (a : Int) = (size n m a : Int) := by
  unfold sizeI
  rw [if_pos ⟨by omega, by omega⟩, Int.toNat_natCast]
end Co

def NumPost (n : Nat) (m : Nat → Nat) (w : World) (e : Ending) (w' : World) : Prop :=
  ∃ v, e = .returned v ∧ OwnZ w' w.heap.size v (Co.ints n (Co.num m)) ∧ Below w.heap.size w w'

set_option maxRecDepth 100000 in
set_option maxHeartbeats 8000000 in
theorem numbered_any (v : Option Addr) (n : Nat) (m : Nat → Nat) (w : World) (h : IsSets w v n m) : Calls Try.prog 40 #[.pointer v] w (NumPost n m w) := by
  obtain ⟨i0, hi, hz0, hz1, hz2⟩ := info_parts Try.infoNum
  have hn := h.bound
  have HNORM := Nu.hid h.norm
  have hle : ∀ W a, a < n → Below w.heap.size w W → Calls Try.prog 64 #[.pointer v, .int .i64 (a : Int)] W fun e w' => e = .returned (.int .i64 (m a : Int)) ∧ ∃ k, w' = W.drewN k := fun W a ha hb => by
    have := least_any v n m a W (h.later hb)
    rw [Co.leastI_in ha] at this
    exact this
  have HLE := Nu.hid hle
  clear hle
  rcases h with ⟨rfl, rfl⟩ | ⟨p, gp, gt, rfl, -, P, S, L, r, d, h, -⟩
  · go_enter Try.func40, Try.ntmps40
    go_wp2
    go_ret
    exact ⟨_, rfl, OwnZ.nil _ _, Below.refl _ _⟩
  · have c0 := h.c0
    clear h
    go_enter Try.func40, Try.ntmps40
    go_wp2_with (at_make; refine wpList_make_full _ rfl _ _ 26 rfl w.heap.size 3 i0 (.int .i64 0) 1 Try.underlying26 hi hz0 hz1 _ _ _ _ n rfl rfl rfl rfl (by rw [hz2]; omega) (by unfold maxLen; omega) (Nat.le_refl _) ?_; refine Hid.out ?_)
    refine Nu.hid ?_
    intro w2 hrow hg2
    rw [made_zeros] at hrow
    have hik := ints_of_row hrow
    rw [← Co.ints_zero] at hik
    have hb2 : Below w.heap.size w w2 := (Below.refl _ _).grown hg2 (Nat.le_refl _) (fun j hj => by cases hj)
    have HI2 := Nu.hid hik
    have HB2 := Nu.hid hb2
    clear hrow hg2 hik hb2
    go_wp2
    go_loopw [4, 17] (fun s c wr => ∃ (k : Nat) (F : Nat → Nat), k ≤ n ∧ c = .int .i64 (k : Int) ∧ s = .int .i64 (Co.cntTo (Co.fix m) k : Int) ∧ (∀ i, i < k → F i = Co.num m i) ∧ IntsBlk wr w.heap.size (Co.ints n F) ∧ Below w.heap.size w wr) (fun _ c _ => n - (intOf c).toNat)
    case atStart => exact ⟨0, _, Nat.zero_le _, rfl, rfl, fun i hi => by omega, HI2.out, HB2.out⟩
    case round =>
      obtain ⟨k, F, hk, rfl, rfl, hF, hiS, hb⟩ := hrel
      have hcl := Co.cntTo_le (Co.fix m) k
      by_cases hkn : k < n
      · have hk0 : (0 : Int) ≤ (k : Int) := by omega
        have hk1 : (k : Int) < (n : Int) := by omega
        have HL := Nu.hid (HLE.out wr k hkn hb)
        have HF := Nu.hid hF
        have HIS := Nu.hid hiS
        have HB := Nu.hid hb
        clear hF hiS hb
        by_cases hf : m k = k
        · have hd : ((m k : Int) == (k : Int)) = true := by simp [hf]
          have hsucc := Co.fix_succ_yes hf
          have hnum := Co.num_self hf
          have HSU := Nu.hid hsucc
          have HNU := Nu.hid hnum
          obtain ⟨z, hz⟩ : ∃ z, Co.cntTo (Co.fix m) k = z := ⟨_, rfl⟩
          rw [hz] at hcl HSU HNU ⊢
          clear hsucc hnum hz hf
          go_wp2_with (go_at_call 64; refine HL.out.mono ?_; rintro e w3 ⟨rfl, q, hw3⟩; have HW3 := Nu.hid hw3; clear hw3; refine Hid.out ?_)
          refine Nu.hid ?_
          have i3 : IntsBlk w3 w.heap.size (Co.ints n F) := by rw [HW3.out]; exact HIS.out
          have b3 : Below w.heap.size w w3 := by rw [HW3.out]; exact below_drewN HB.out q
          have cx := i3.cell (Co.ints_at (f := F) hkn)
          have cf := i3.free
          have n1 := i3.set k (z : Int)
          rw [Co.ints_set z hkn] at n1
          have HN1 := Nu.hid n1
          have HB3 := Nu.hid (b3.setCell (p := ⟨w.heap.size, k, none⟩) (Nat.le_refl _) (.int .i64 (z : Int)))
          clear i3 b3 n1
          go_wp2
          go_roundw
          case rel =>
            refine ⟨k + 1, _, by omega, by go_num, by rw [HSU.out]; go_num, fun i hi => ?_, HN1.out, HB3.out⟩
            by_cases e : i = k
            · subst e; rw [Co.upd_same, HNU.out]
            · rw [Co.upd_other _ e]; exact HF.out i (by omega)
          case measure => simp [intOf]; omega
        · have hd : ((m k : Int) == (k : Int)) = false := by simp; omega
          have hml := HNORM.out.le k hkn
          have hmk : m k < k := by omega
          have hsucc := Co.fix_succ_no hf
          have HSU := Nu.hid hsucc
          have hnum := Co.num_least HNORM.out hkn
          have hfm := HF.out (m k) hmk
          rw [hnum] at hfm
          have HFM := Nu.hid hfm
          obtain ⟨z, hz⟩ : ∃ z, Co.cntTo (Co.fix m) k = z := ⟨_, rfl⟩
          rw [hz] at hcl HSU ⊢
          obtain ⟨y, hy⟩ : ∃ y, m k = y := ⟨_, rfl⟩
          rw [hy] at hmk HL hd HFM
          have y0 : (0 : Int) ≤ (y : Int) := by omega
          have y1 : (y : Int) < (n : Int) := by omega
          clear hsucc hnum hfm hz hf hy hml
          go_wp2_with (go_at_call 64; refine HL.out.mono ?_; rintro e w3 ⟨rfl, q, hw3⟩; have HW3 := Nu.hid hw3; clear hw3; refine Hid.out ?_)
          refine Nu.hid ?_
          have i3 : IntsBlk w3 w.heap.size (Co.ints n F) := by rw [HW3.out]; exact HIS.out
          have b3 : Below w.heap.size w w3 := by rw [HW3.out]; exact below_drewN HB.out q
          have cx := i3.cell (Co.ints_at (f := F) hkn)
          have cy := i3.cell (Co.ints_at (f := F) (show y < n by omega))
          have cf := i3.free
          have n1 := i3.set k (F y : Int)
          rw [Co.ints_set (F y) hkn] at n1
          have HN1 := Nu.hid n1
          have HB3 := Nu.hid (b3.setCell (p := ⟨w.heap.size, k, none⟩) (Nat.le_refl _) (.int .i64 (F y : Int)))
          clear i3 b3 n1
          go_wp2
          go_roundw
          case rel =>
            refine ⟨k + 1, _, by omega, by go_num, by rw [HSU.out], fun i hi => ?_, HN1.out, HB3.out⟩
            by_cases e : i = k
            · subst e; rw [Co.upd_same, HFM.out]
            · rw [Co.upd_other _ e]; exact HF.out i (by omega)
          case measure => simp [intOf]; omega
      · have hd : ¬ ((k : Int) < (n : Int)) := by omega
        obtain rfl : k = n := by omega
        rw [Co.ints_congr hF] at hiS
        have HIS := Nu.hid hiS
        have HB := Nu.hid hb
        clear hF hiS hb
        go_wp2
        go_ret
        exact ⟨_, rfl, HIS.out.own (Nat.le_refl _) (Co.ints_length _ _) (by omega), HB.out⟩

end Go.Proofs.Ytalfpbalekbinaa
