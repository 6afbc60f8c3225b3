/-
  What the document's own Text answers: the number's decimal numeral.
-/
import Derived.Test.YtcglpafbmekabaaDoorProg
import Derived.Test.YtcglpafbmekabaaDoorCount
import Derived.Lib.ItoaNum
import Derived.Lib.ItoaLen
import Derived.Laws.IdiomStrings
namespace Go.Proofs.YtcglpafbmekabaaDoor
open Go.RowKit

/-- The digits of u; none of 0. -/
def dd (u : Nat) : List UInt8 := if u = 0 then [] else Lib.decDigits u

theorem dd_step (u : Nat) (h : u ≠ 0) : dd u = dd (u / 10) ++ [UInt8.ofNat (48 + u % 10)] := by
  unfold dd
  rw [if_neg h]
  by_cases h9 : u < 10
  · rw [Lib.decDigits_one h9, if_pos (by omega), Nat.mod_eq_of_lt h9]
    rfl
  · rw [if_neg (by omega)]
    conv => lhs; rw [Lib.decDigits, dif_neg h9]

theorem dd_pos (u : Nat) (h : u ≠ 0) : dd u = Lib.decDigits u := by unfold dd; rw [if_neg h]

theorem run_byte_string (x : Nat) (hx : x < 256) (W : World) :
    (convert 22 9 (.slice (some ⟨W.heap.size, 0, none⟩) 1 1)).run Tryd.prog (W.alloc (.cells #[.int .u8 (x : Int)] 5)) = .ok (.string ⟨#[UInt8.ofNat x]⟩) (W.alloc (.cells #[.int .u8 (x : Int)] 5)) := by
  refine run_convert_bytes_back (P := Tryd.prog) _ 22 9 5 ⟨W.heap.size, 0, none⟩ 1 [UInt8.ofNat x] Tryd.underlying22 Tryd.underlying5 Tryd.underlying9 ?_
  intro j hj
  simp at hj
  subst hj
  simp [Addr.add, World.cell?_alloc_at]
  omega

set_option maxHeartbeats 1000000 in
theorem reftext_pos (m : Nat) (hm : 0 < m) (h1 : (m : Int) ≤ 9223372036854775807) (w : World) :
    Calls Tryd.prog 16 #[.int .i64 m] w fun e w' => e = .returned (.string ⟨(Lib.decDigits m).toArray⟩) ∧ w.grownBy w' none := by
  have j0 : ((m : Int) == 0) = false := by simp; omega
  have hlen := Lib.itoa_length_le (m : Int) (by omega) h1
  rw [Lib.itoa_nonneg] at hlen
  have HLEN := Nu.hid hlen
  clear hlen
  go_enter Tryd.func16, Tryd.ntmps16
  go_wp2
  go_loopw [3, 4] (fun s c wr => ∃ (k : Nat) (l : List UInt8), k ≤ m ∧ Lib.decDigits m = dd k ++ l ∧ c = .int .i64 k ∧ s = .string ⟨l.toArray⟩ ∧ w.grownBy wr none) (fun _ c _ => (intOf c).toNat)
  case atStart => exact ⟨m, [], Nat.le_refl _, by rw [dd_pos m (by omega)]; simp, rfl, rfl, World.grownBy.refl _ _⟩
  case round =>
    obtain ⟨k, l, hk, hd, rfl, rfl, hg⟩ := hrel
    have hll : l.length ≤ 21 := by
      have := congrArg List.length hd
      rw [List.length_append] at this
      have := HLEN.out
      omega
    have HD := Nu.hid hd
    clear hd
    by_cases hz : k = 0
    · subst hz
      go_wp2
      go_ret
      refine ⟨?_, hg⟩
      rw [HD.out]
      rfl
    · have j1 : ((k : Int) != 0) = true := by simp; omega
      have hk0 : (0 : Int) ≤ (k : Int) := by omega
      have hk1 : (k : Int) ≤ 9223372036854775807 := by omega
      have kc : ∀ W : World, (convert 22 9 (.slice (some ⟨W.heap.size, 0, none⟩) 1 1)).run Tryd.prog (W.alloc (.cells #[.int .u8 (48 + (k : Int) % 10)] 5)) = .ok (.string ⟨#[UInt8.ofNat (48 + k % 10)]⟩) (W.alloc (.cells #[.int .u8 (48 + (k : Int) % 10)] 5)) := fun W => by
        have h := run_byte_string (48 + k % 10) (by omega) W
        rw [show ((48 + k % 10 : Nat) : Int) = 48 + (k : Int) % 10 by omega] at h
        exact h
      go_wp2
      go_roundw
      case rel =>
        refine ⟨k / 10, UInt8.ofNat (48 + k % 10) :: l, by omega, ?_, by go_num, ?_, grownBy_alloc' hg _⟩
        · rw [HD.out, dd_step k hz]; simp
        · simp [ByteArray.mk_append_mk]
      case measure => simp [intOf]; omega

set_option maxHeartbeats 1000000 in
theorem reftext_neg (m : Nat) (hm : 0 < m) (h1 : (m : Int) ≤ 9223372036854775808) (w : World) :
    Calls Tryd.prog 16 #[.int .i64 (-(m : Int))] w fun e w' => e = .returned (.string ⟨(45 :: Lib.decDigits m).toArray⟩) ∧ w.grownBy w' none := by
  have j0 : (-(m : Int) == 0) = false := by simp; omega
  have j2 : -(m : Int) < 0 := by omega
  have hlen := Lib.itoa_length_le (-(m : Int)) (by omega) (by omega)
  rw [Lib.itoa_neg m hm] at hlen
  have HLEN := Nu.hid hlen
  clear hlen
  go_enter Tryd.func16, Tryd.ntmps16
  go_wp2
  go_loopw [3, 4] (fun s c wr => ∃ (k : Nat) (l : List UInt8), k ≤ m ∧ Lib.decDigits m = dd k ++ l ∧ c = .int .i64 (-(k : Int)) ∧ s = .string ⟨l.toArray⟩ ∧ w.grownBy wr none) (fun _ c _ => (intOf c).natAbs)
  case atStart => exact ⟨m, [], Nat.le_refl _, by rw [dd_pos m (by omega)]; simp, rfl, rfl, World.grownBy.refl _ _⟩
  case round =>
    obtain ⟨k, l, hk, hd, rfl, rfl, hg⟩ := hrel
    have hll : l.length ≤ 21 := by
      have := congrArg List.length hd
      rw [List.length_append] at this
      have := HLEN.out
      simp at this
      omega
    have HD := Nu.hid hd
    clear hd
    by_cases hz : k = 0
    · subst hz
      go_wp2
      go_ret
      refine ⟨?_, hg⟩
      rw [HD.out]
      simp [ByteArray.mk_append_mk, dd]
    · have j1 : (-(k : Int) != 0) = true := by simp; omega
      have kc : ∀ W : World, (convert 22 9 (.slice (some ⟨W.heap.size, 0, none⟩) 1 1)).run Tryd.prog (W.alloc (.cells #[.int .u8 (48 + (k : Int) % 10)] 5)) = .ok (.string ⟨#[UInt8.ofNat (48 + k % 10)]⟩) (W.alloc (.cells #[.int .u8 (48 + (k : Int) % 10)] 5)) := fun W => by
        have h := run_byte_string (48 + k % 10) (by omega) W
        rw [show ((48 + k % 10 : Nat) : Int) = 48 + (k : Int) % 10 by omega] at h
        exact h
      by_cases hmod : k % 10 = 0
      · have kc0 : ∀ W : World, (convert 22 9 (.slice (some ⟨W.heap.size, 0, none⟩) 1 1)).run Tryd.prog (W.alloc (.cells #[.int .u8 (48 + -((k : Int) % 10))] 5)) = .ok (.string ⟨#[UInt8.ofNat 48]⟩) (W.alloc (.cells #[.int .u8 (48 + -((k : Int) % 10))] 5)) := fun W => by
          have h := run_byte_string 48 (by omega) W
          rw [show ((48 : Nat) : Int) = 48 + -((k : Int) % 10) by omega] at h
          exact h
        have hm0 : (k : Int) % 10 ≤ 0 := by omega
        have HM := Nu.hid hmod
        clear hmod kc
        go_wp2
        go_roundw
        case rel =>
          refine ⟨k / 10, UInt8.ofNat (48 + k % 10) :: l, by omega, ?_, by go_num, ?_, grownBy_alloc' hg _⟩
          · rw [HD.out, dd_step k hz]; simp
          · rw [HM.out]; simp [ByteArray.mk_append_mk]
        case measure => simp [intOf]; omega
      · have hm0 : 0 < (k : Int) % 10 := by omega
        clear hmod
        go_wp2
        go_roundw
        case rel =>
          refine ⟨k / 10, UInt8.ofNat (48 + k % 10) :: l, by omega, ?_, by go_num, ?_, grownBy_alloc' hg _⟩
          · rw [HD.out, dd_step k hz]; simp
          · simp [ByteArray.mk_append_mk]
        case measure => simp [intOf]; omega

set_option maxHeartbeats 400000 in
theorem reftext_zero (w : World) :
    Calls Tryd.prog 16 #[.int .i64 0] w fun e w' => e = .returned (.string ⟨(Lib.itoa 0).toArray⟩) ∧ w.grownBy w' none := by
  have e0 : Lib.itoa 0 = [48] := by decide +kernel
  rw [e0]
  go_enter Tryd.func16, Tryd.ntmps16
  go_wp2
  go_ret
  exact ⟨rfl, World.grownBy.refl _ _⟩

/-- The document's Text is the decimal numeral, of every int. -/
theorem reftext_any (n : Int) (h0 : -9223372036854775808 ≤ n) (h1 : n ≤ 9223372036854775807) (w : World) :
    Calls Tryd.prog 16 #[.int .i64 n] w fun e w' => e = .returned (.string ⟨(Lib.itoa n).toArray⟩) ∧ w.grownBy w' none := by
  rcases Int.lt_trichotomy n 0 with h | h | h
  · obtain ⟨m, rfl⟩ : ∃ m : Nat, n = -(m : Int) := ⟨n.natAbs, by omega⟩
    rw [Lib.itoa_neg m (by omega)]
    exact reftext_neg m (by omega) (by omega) w
  · subst h
    exact reftext_zero w
  · obtain ⟨m, rfl⟩ : ∃ m : Nat, n = (m : Int) := ⟨n.toNat, by omega⟩
    rw [Lib.itoa_nonneg]
    exact reftext_pos m (by omega) h1 w

end Go.Proofs.YtcglpafbmekabaaDoor
