/-
  slices.Repeat of one int: math/bits' Mul at small numbers.
-/
import Derived.Test.YtloabkgojopeaaaMg04
import Derived.Laws.CopyOwn
import Derived.Deep.RegionLaw
namespace Go.Proofs.Ytloabkgojopeaaa
open Go.RowKit

theorem and_low (n : Nat) (hn : n < 4294967296) : bits .and .u64 (n : Int) 4294967295 = (n : Int) := by
  have h1 : (BitVec.ofInt 64 (n : Int)).toNat = n := by
    rw [BitVec.ofInt_natCast, BitVec.toNat_ofNat]; exact Nat.mod_eq_of_lt (by omega)
  have h2 : (BitVec.ofInt 64 (4294967295 : Int)).toNat = 4294967295 := by decide
  show IntKind.u64.wrap ((BitVec.ofInt 64 (n : Int) &&& BitVec.ofInt 64 (4294967295 : Int)).toNat : Int) = _
  rw [BitVec.toNat_and, h1, h2]
  have h3 : n &&& 4294967295 = n := by
    have := Nat.and_two_pow_sub_one_eq_mod n 32
    rw [show (2 ^ 32 - 1 : Nat) = 4294967295 by decide] at this
    rw [this]
    exact Nat.mod_eq_of_lt (by omega)
  rw [h3, IntKind.wrap_u64]
  omega

set_option maxRecDepth 100000 in
set_option maxHeartbeats 4000000 in
theorem mul64_any (n : Nat) (w : World) (hn : n ≤ 1048576) :
    Calls Try.prog 67 #[.int .u64 1, .int .u64 (n : Int)] w fun e w' => e = .returned (.tuple #[.int .u64 0, .int .u64 (n : Int)]) ∧ w' = w := by
  have h1 := and_low n (by omega)
  have h2 : bits .and .u64 (1 : Int) 4294967295 = 1 := by decide
  have h3 : bits .and .u64 (0 : Int) 4294967295 = 0 := by decide
  have h4 : IntKind.u64.wrap (n : Int) = (n : Int) := by rw [IntKind.wrap_u64]; omega
  go_enter Try.func67, Try.ntmps67
  have h5 : (n : Int) / 4294967296 = 0 := by omega
  go_wp2
  go_ret2
  exact ⟨rfl, rfl⟩

set_option maxRecDepth 100000 in
set_option maxHeartbeats 4000000 in
theorem mul_any (n : Nat) (w : World) (hn : n ≤ 1048576) :
    Calls Try.prog 64 #[.int .u64 1, .int .u64 (n : Int)] w fun e w' => e = .returned (.tuple #[.int .u64 0, .int .u64 (n : Int)]) ∧ w' = w := by
  have HM := Nu.hid (mul64_any n w hn)
  go_enter Try.func64, Try.ntmps64
  go_wp2_with (go_at_call 67; refine HM.out.mono ?_; rintro e w' ⟨rfl, rfl⟩)
  go_ret2
  exact ⟨rfl, rfl⟩

namespace Ro
/-- The first k are laid. -/
def rep (z : Int) (n k : Nat) : List Int := List.replicate k z ++ List.replicate (n - k) 0
theorem rep_len (z : Int) {n k : Nat} (h : k ≤ n) : (rep z n k).length = n := by simp [rep]; omega
theorem rep_at {z : Int} {n k j : Nat} (hj : j < k) : (rep z n k)[j]? = some z := by
  unfold rep
  rw [List.getElem?_append_left (by simpa using hj), List.getElem?_replicate, if_pos hj]
theorem rep_splice (z : Int) {n k c : Nat} (h : k + c ≤ n) : splice ((rep z n k).map (Value.int .i64)) k (List.replicate c (Value.int .i64 z)) = (rep z n (k + c)).map (Value.int .i64) := by
  unfold splice rep
  simp only [List.map_append, List.map_replicate, List.length_replicate]
  rw [List.take_append_of_le_length (by simp), List.take_of_length_le (by simp), List.drop_append, List.drop_of_length_le (by simp), List.nil_append, List.length_replicate, List.drop_replicate, ← List.append_assoc, List.replicate_append_replicate]
  congr 2
  omega
end Ro

/-- What Repeat answers. -/
def RepPost (z : Int) (n : Nat) (w : World) (e : Ending) (w' : World) : Prop := ∃ g, e = .returned (.slice (some ⟨g, 0, none⟩) n n) ∧ w.heap.size ≤ g ∧ IntsBlk w' g (List.replicate n z) ∧ Below w.heap.size w w'

theorem sizeInt1 : (Try.prog.info? 3).map (·.size) = some 1 := by kernel_rfl

/-- 'copy' within the row: the first c of those that are laid come behind them. -/
theorem run_copy_rep (W : World) (g n k c : Nat) (z : Int) (dp sp : Option Addr) (dLen dCap sLen sCap : Nat) (hI : IntsBlk W g (Ro.rep z n k)) (hk : k + c ≤ n) (hc : c = Nat.min sLen dLen) (hd : 0 < c → dp = some ⟨g, k, none⟩) (hs : 0 < c → ∃ ad, sp = some ad ∧ ∀ j, j < c → W.cell? (ad.add j) = some (.int .i64 z)) (ty : TypeId) :
    ∃ w', (Builtin.copy_ #[22, 22] ty #[.slice dp dLen dCap, .slice sp sLen sCap]).run Try.prog W = .ok (goInt c) w' ∧ IntsBlk w' g (Ro.rep z n (k + c)) ∧ ∀ B, B ≤ g → Below B W w' := by
  by_cases h0 : c = 0
  · subst h0
    exact ⟨W, run_copy_none (P := Try.prog) W 22 22 ty 3 dp sp dLen dCap sLen sCap Try.underlying22 sizeInt1 hc.symm, hI, fun B _ => Below.refl _ _⟩
  · obtain rfl := hd (by omega)
    obtain ⟨ad, rfl, hcell⟩ := hs (by omega)
    have hrun := run_copy_row (P := Try.prog) W 22 22 ty 3 g k dLen dCap ad sLen sCap ((Ro.rep z n k).map (Value.int .i64)).toArray 3 (List.replicate c (Value.int .i64 z)) Try.underlying22 sizeInt1 hI (by rw [List.length_replicate]; exact hc)
      (fun j v hj => by
        rw [List.getElem?_replicate] at hj
        split at hj
        · cases hj
          exact hcell j (by assumption)
        · cases hj) (by simp [Ro.rep]; omega) (fun v hv => by rw [List.eq_of_mem_replicate hv]; rfl)
    rw [List.length_replicate] at hrun
    refine ⟨_, hrun, ?_, fun B hB => ⟨rfl, rfl, rfl, by simp [World.setRow], fun q hq => setRow_other W g q _ (by omega)⟩⟩
    unfold IntsBlk
    rw [setRow_heap W g _ _ 3 _ hI, ← Ro.rep_splice z hk]
    unfold splice
    rw [List.length_replicate, List.append_assoc]

set_option maxRecDepth 100000 in
set_option maxHeartbeats 8000000 in
theorem repeat_any (z : Int) (b n : Nat) (w : World) (hc : w.cell? ⟨b, 0, none⟩ = some (.int .i64 z)) (hn : n ≤ 1048576) :
    Calls Try.prog 59 #[.slice (some ⟨b, 0, none⟩) 1 1, .int .i64 (n : Int)] w (RepPost z n w) := by
  obtain ⟨i0, hi, hz0, hz1, hz2⟩ := info_parts Try.infoNum
  have h4 : IntKind.u64.wrap (n : Int) = (n : Int) := by rw [IntKind.wrap_u64]; omega
  have h5 : IntKind.i64.wrap (n : Int) = (n : Int) := by rw [IntKind.wrap_i64]; omega
  have h6 : ¬ (9223372036854775807 : Int) < (n : Int) := by omega
  have hn0 : ¬ (n : Int) < 0 := by omega
  have HM := Nu.hid (mul_any n w hn)
  have HC := Nu.hid hc
  clear hc
  go_enter Try.func59, Try.ntmps59
  go_wp2_with (first
    | (go_at_call 64; refine HM.out.mono ?_; rintro e w' ⟨rfl, hw⟩; obtain rfl := hw.symm)
    | (at_make; refine wpList_make_full _ rfl _ _ 22 rfl w.heap.size 3 i0 (.int .i64 0) 1 Try.underlying22 hi hz0 hz1 _ _ _ _ n rfl rfl rfl rfl (by rw [hz2]; omega) (by unfold maxLen; omega) (Nat.le_refl _) ?_; refine Hid.out ?_))
  refine Nu.hid ?_
  intro w2 hrow hg2
  rw [made_zeros] at hrow
  have hb2 : Below w.heap.size w w2 := (Below.refl _ _).grown hg2 (Nat.le_refl _) (fun j hj => by cases hj)
  have hI : IntsBlk w2 w.heap.size (Ro.rep z n 0) := by
    unfold Ro.rep
    simpa using ints_of_row hrow
  have hc2 := (hb2.cell (p := ⟨b, 0, none⟩) (block_lt_of_cell HC.out)).trans HC.out
  have hmin : Nat.min 1 n ≤ n := Nat.min_le_right _ _
  obtain ⟨c, hcm⟩ : ∃ c, c = Nat.min 1 n := ⟨_, rfl⟩
  rw [← hcm] at hmin
  have hc1 : c ≤ 1 := by rw [hcm]; exact Nat.min_le_left _ _
  have hc3 : n ≠ 0 → 0 < c := fun h => by
    rw [hcm]
    show 0 < min 1 n
    omega
  obtain ⟨w3, hrun, hI3, hb3⟩ := run_copy_rep w2 w.heap.size n 0 c z (some ⟨w.heap.size, 0, none⟩) (some ⟨b, 0, none⟩) n n 1 1 hI (by omega) hcm (fun _ => rfl) (fun _ => ⟨_, rfl, fun j hj => by
    obtain rfl : j = 0 := by omega
    exact hc2⟩) 3
  rw [Nat.zero_add] at hI3
  have HI3 := Nu.hid hI3
  have HB3 := Nu.hid (hb2.trans (hb3 _ (Nat.le_refl _)))
  have HC3 := Nu.hid hc3
  clear hrow hg2 hb2 hI hc2 hcm hI3 hb3 hc3
  go_wp2
  go_loopw [8] (fun x wr => ∃ k : Nat, k ≤ n ∧ (n ≠ 0 → 0 < k) ∧ x = .int .i64 (k : Int) ∧ IntsBlk wr w.heap.size (Ro.rep z n k) ∧ Below w.heap.size w wr) (fun x _ => n - (intOf x).toNat)
  case atStart => exact ⟨c, hmin, HC3.out, rfl, HI3.out, HB3.out⟩
  case round =>
    clear hrun HI3 HB3 HC3
    obtain ⟨k, hk, hk0, rfl, hik, hb⟩ := hrel
    have HI := Nu.hid hik
    have HB := Nu.hid hb
    clear hik hb
    by_cases hlt : k < n
    · have hlti : (k : Int) < (n : Int) := by omega
      have hkp : 0 < k := hk0 (by omega)
      obtain ⟨c', hc'⟩ : ∃ c', c' = Nat.min k (n - k) := ⟨_, rfl⟩
      have hc1' : c' ≤ k := by rw [hc']; exact Nat.min_le_left _ _
      have hc2' : k + c' ≤ n := by
        have : c' ≤ n - k := by rw [hc']; exact Nat.min_le_right _ _
        omega
      have hc3' : 0 < c' := by
        rw [hc']
        show 0 < min k (n - k)
        omega
      obtain ⟨w4, hrun, hI4, hb4⟩ := run_copy_rep wr.drew w.heap.size n k c' z (some ⟨w.heap.size, k, none⟩) (some ⟨w.heap.size, 0, none⟩) (n - k) (n - k) k n HI.out hc2' hc' (fun _ => rfl) (fun _ => ⟨_, rfl, fun j hj => by
        have ea : ((⟨w.heap.size, 0, none⟩ : Addr).add j) = ⟨w.heap.size, j, none⟩ := by
          by_cases h0 : j = 0 <;> simp [Addr.add, h0]
        rw [ea]
        exact HI.out.cell (Ro.rep_at (by omega))⟩) 3
      have HI4 := Nu.hid hI4
      have HB4 := Nu.hid (HB.out.trans (((Below.refl _ _).drew).trans (hb4 _ (Nat.le_refl _))))
      clear hI4 hb4 hc'
      go_wp2_with fail
      go_region
      clear hrun
      go_wp2
      go_roundw
      case rel => exact ⟨k + c', hc2', fun _ => by omega, by simp, HI4.out, HB4.out⟩
      case measure => simp [intOf]; omega
    · have hlti : ¬ (k : Int) < (n : Int) := by omega
      obtain rfl : k = n := by omega
      go_wp2
      go_ret
      refine ⟨_, rfl, Nat.le_refl _, ?_, HB.out⟩
      have h1 := HI.out
      unfold Ro.rep at h1
      simpa using h1

end Go.Proofs.Ytloabkgojopeaaa
