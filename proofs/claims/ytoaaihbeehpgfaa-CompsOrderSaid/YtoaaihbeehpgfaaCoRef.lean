/-
  The document's sets: a list, by number the least of its set.
-/
import Derived.Test.YtoaaihbeehpgfaaCoNum
import Derived.Test.YtoaaihbeehpgfaaCoRows
import Derived.Sort.Grow
import Derived.BigQuiet
import Derived.Deep.QuietTactic
import Derived.Deep.CutBlock
import Derived.Deep.CutRange
namespace Go.Proofs.Ytoaaihbeehpgfaa
open Go.RowKit Go.Sort

/-- The list of the first n values of m lies there. -/
abbrev RefAt (w : World) (ao : Option Addr) (n : Nat) (m : Nat → Nat) : Prop := IntsAt w ao (Co.ints n m)

theorem RefAt.cell {w : World} {ao : Option Addr} {n : Nat} {m : Nat → Nat} (h : RefAt w ao n m) {i : Nat} (hi : i < n) : ∃ b o : Nat, ao = some ⟨b, o, none⟩ ∧ w.cell? ⟨b, o + i, none⟩ = some (.int .i64 (m i : Int)) := h i _ (Co.ints_at hi)

set_option maxRecDepth 100000 in
set_option maxHeartbeats 1000000 in
theorem rhas_any (ao : Option Addr) (n c : Nat) (x : Int) (w : World) : Calls Try.prog 32 #[.slice ao n c, .int .i64 x] w fun e w' => e = .returned (.bool (decide (Co.isIn n x))) ∧ w' = w := by
  by_cases h1 : 0 ≤ x
  · by_cases h2 : x < (n : Int)
    · rw [decide_eq_true (show Co.isIn n x from ⟨h1, h2⟩)]
      go_enter Try.func32, Try.ntmps32
      go_wp2
      go_ret
      exact ⟨rfl, rfl⟩
    · rw [decide_eq_false (fun h : Co.isIn n x => h2 h.2)]
      go_enter Try.func32, Try.ntmps32
      go_wp2
      go_ret
      exact ⟨rfl, rfl⟩
  · rw [decide_eq_false (fun h : Co.isIn n x => h1 h.1)]
    go_enter Try.func32, Try.ntmps32
    go_wp2
    go_ret
    exact ⟨rfl, rfl⟩

theorem rhas_yes (ao : Option Addr) (n c : Nat) (w : World) (z : Int) (hz : Co.isIn n z) : Calls Try.prog 32 #[.slice ao n c, .int .i64 z] w fun e w' => e = .returned (.bool true) ∧ w' = w := by
  have := rhas_any ao n c z w
  rw [decide_eq_true hz] at this
  exact this
theorem rhas_no (ao : Option Addr) (n c : Nat) (w : World) (z : Int) (hz : ¬ Co.isIn n z) : Calls Try.prog 32 #[.slice ao n c, .int .i64 z] w fun e w' => e = .returned (.bool false) ∧ w' = w := by
  have := rhas_any ao n c z w
  rw [decide_eq_false hz] at this
  exact this

set_option maxRecDepth 100000 in
set_option maxHeartbeats 1000000 in
theorem rleast_any (ao : Option Addr) (n c : Nat) (m : Nat → Nat) (x : Int) (w : World) (h : RefAt w ao n m) : Calls Try.prog 35 #[.slice ao n c, .int .i64 x] w fun e w' => e = .returned (.int .i64 (Co.leastI n m x)) ∧ w' = w := by
  by_cases hx : Co.isIn n x
  · have HV := Nu.hid (rhas_yes ao n c w x hx)
    unfold Co.leastI
    rw [if_pos hx]
    obtain ⟨u, rfl⟩ : ∃ u : Nat, x = (u : Int) := ⟨x.toNat, by unfold Co.isIn at hx; omega⟩
    have hul := Co.isIn_lt hx
    rw [Int.toNat_natCast] at hul ⊢
    obtain ⟨b, o, rfl, c0⟩ := h.cell hul
    have u0 : (0 : Int) ≤ (u : Int) := by omega
    have u1 : (u : Int) < (n : Int) := by omega
    clear h hx
    go_enter Try.func35, Try.ntmps35
    go_wp2_with (go_at_call 32; refine HV.out.mono ?_; rintro e w1 ⟨rfl, rfl⟩)
    go_ret
    exact ⟨rfl, rfl⟩
  · have HV := Nu.hid (rhas_no ao n c w x hx)
    unfold Co.leastI
    rw [if_neg hx]
    clear h hx
    go_enter Try.func35, Try.ntmps35
    go_wp2_with (go_at_call 32; refine HV.out.mono ?_; rintro e w1 ⟨rfl, rfl⟩)
    go_ret
    exact ⟨rfl, rfl⟩

set_option maxRecDepth 100000 in
set_option maxHeartbeats 4000000 in
theorem rsame5_any (ao : Option Addr) (n c : Nat) (m : Nat → Nat) (x y : Int) (w : World) (h : RefAt w ao n m) : Calls Try.prog 37 #[.slice ao n c, .int .i64 x, .int .i64 y] w fun e w' => e = .returned (.bool (Co.sameI n m x y)) ∧ ∃ k, w' = w.drewN k := by
  have HVT := Nu.hid (fun k z hz => rhas_yes ao n c (w.drewN k) z hz)
  have HVF := Nu.hid (fun k z hz => rhas_no ao n c (w.drewN k) z hz)
  by_cases hx : Co.isIn n x
  · by_cases hy : Co.isIn n y
    · obtain ⟨a, rfl⟩ : ∃ u : Nat, x = (u : Int) := ⟨x.toNat, by unfold Co.isIn at hx; omega⟩
      obtain ⟨b, rfl⟩ : ∃ u : Nat, y = (u : Int) := ⟨y.toNat, by unfold Co.isIn at hy; omega⟩
      have hal := Co.isIn_lt hx
      have hbl := Co.isIn_lt hy
      rw [Int.toNat_natCast] at hal hbl
      have hs : Co.sameI n m a b = decide (m a = m b) := by
        unfold Co.sameI
        rw [Int.toNat_natCast, Int.toNat_natCast, Bool.eq_iff_iff]
        simp [hx, hy]
      rw [hs]
      obtain ⟨p, o, rfl, c0⟩ := h.cell hal
      obtain ⟨p', o', e', c1⟩ := h.cell hbl
      cases e'
      have heq : ((m a : Int) == (m b : Int)) = decide (m a = m b) := by
        rw [Bool.eq_iff_iff]
        simp
        omega
      obtain ⟨t, ht⟩ : ∃ t, decide (m a = m b) = t := ⟨_, rfl⟩
      rw [ht] at heq ⊢
      have a0 : (0 : Int) ≤ (a : Int) := by omega
      have a1 : (a : Int) < (n : Int) := by omega
      have b0 : (0 : Int) ≤ (b : Int) := by omega
      have b1 : (b : Int) < (n : Int) := by omega
      clear h hs ht
      go_enter Try.func37, Try.ntmps37
      go_wp2_with fail
      go_quiet ((go_at_call 32; refine Calls.quiet_of_same (HVT.out _ _ ?_); assumption))
      go_wp2
      go_ret
      exact ⟨rfl, nq, rfl⟩
    · have hs : Co.sameI n m x y = false := by
        unfold Co.sameI
        exact decide_eq_false (fun h => hy h.2.1)
      rw [hs]
      clear h hs
      go_enter Try.func37, Try.ntmps37
      go_wp2_with fail
      go_quiet ((go_at_call 32; first | (refine Calls.quiet_of_same (HVT.out _ _ ?_); assumption) | (refine Calls.quiet_of_same (HVF.out _ _ ?_); assumption)))
      go_wp2
      go_ret
      exact ⟨rfl, nq, rfl⟩
  · have hs : Co.sameI n m x y = false := by
      unfold Co.sameI
      exact decide_eq_false (fun h => hx h.1)
    rw [hs]
    clear h hs
    go_enter Try.func37, Try.ntmps37
    go_wp2_with fail
    go_quiet ((go_at_call 32; refine Calls.quiet_of_same (HVF.out _ _ ?_); assumption))
    go_wp2
    go_ret
    exact ⟨rfl, nq, rfl⟩

set_option maxRecDepth 100000 in
set_option maxHeartbeats 4000000 in
theorem rcount_any (ao : Option Addr) (n c : Nat) (m : Nat → Nat) (w : World) (h : RefAt w ao n m) (hn : n ≤ 1048576) : Calls Try.prog 38 #[.slice ao n c] w fun e w' => e = .returned (.int .i64 (Co.cnt n m : Int)) ∧ w' = w := by
  have HR := Nu.hid h
  clear h
  go_enter Try.func38, Try.ntmps38
  go_wp2
  go_loopw [3, 4] (fun s cv wr => ∃ k : Nat, k ≤ n ∧ cv = .int .i64 (k : Int) ∧ s = .int .i64 (Co.cntTo (Co.fix m) k : Int) ∧ wr = w) (fun _ cv _ => n - (intOf cv).toNat)
  case atStart => exact ⟨0, Nat.zero_le _, rfl, rfl, rfl⟩
  case round =>
    obtain ⟨k, hk, rfl, rfl, hwr⟩ := hrel
    obtain rfl := hwr.symm
    have hcl := Co.cntTo_le (Co.fix m) k
    clear hwr
    by_cases hkn : k < n
    · have hk0 : (0 : Int) ≤ (k : Int) := by omega
      have hk1 : (k : Int) < (n : Int) := by omega
      obtain ⟨b, o, rfl, c0⟩ := HR.out.cell hkn
      by_cases hf : m k = k
      · have hd : ((m k : Int) == (k : Int)) = true := by simp [hf]
        have HSU := Nu.hid (Co.fix_succ_yes hf)
        obtain ⟨z, hz⟩ : ∃ z, Co.cntTo (Co.fix m) k = z := ⟨_, rfl⟩
        rw [hz] at hcl HSU ⊢
        clear hf hz
        go_wp2
        go_roundw
        case rel => exact ⟨k + 1, by omega, by go_num, by rw [HSU.out]; go_num, by first | rfl | trivial⟩
        case measure => simp [intOf]; omega
      · have hd : ((m k : Int) == (k : Int)) = false := by simp; omega
        have HSU := Nu.hid (Co.fix_succ_no hf)
        obtain ⟨z, hz⟩ : ∃ z, Co.cntTo (Co.fix m) k = z := ⟨_, rfl⟩
        rw [hz] at hcl HSU ⊢
        clear hf hz
        go_wp2
        go_roundw
        case rel => exact ⟨k + 1, by omega, by go_num, by rw [HSU.out], by first | rfl | trivial⟩
        case measure => simp [intOf]; omega
    · have hd : ¬ ((k : Int) < (n : Int)) := by omega
      obtain rfl : k = n := by omega
      go_wp2
      go_ret
      exact ⟨rfl, rfl⟩

set_option maxRecDepth 100000 in
set_option maxHeartbeats 4000000 in
theorem rsize_any (ao : Option Addr) (n c : Nat) (m : Nat → Nat) (x : Int) (w : World) (h : RefAt w ao n m) (hn : n ≤ 1048576) : Calls Try.prog 36 #[.slice ao n c, .int .i64 x] w fun e w' => e = .returned (.int .i64 (Co.sizeI n m x)) ∧ Below w.heap.size w w' := by
  have HR := Nu.hid h
  clear h
  by_cases hx : Co.isIn n x
  · have HV := Nu.hid (fun W => rhas_yes ao n c W x hx)
    obtain ⟨u, rfl⟩ : ∃ u : Nat, x = (u : Int) := ⟨x.toNat, by unfold Co.isIn at hx; omega⟩
    have hul := Co.isIn_lt hx
    rw [Int.toNat_natCast] at hul
    rw [Co.sizeI_in hul]
    have u0 : (0 : Int) ≤ (u : Int) := by omega
    have u1 : (u : Int) < (n : Int) := by omega
    clear hx
    go_enter Try.func36, Try.ntmps36
    go_wp2
    go_loopw [5, 6] (fun s cv wr => ∃ k : Nat, k ≤ n ∧ cv = .int .i64 (k : Int) ∧ s = .int .i64 (Co.cntTo (fun i => decide (m i = m u)) k : Int) ∧ Below w.heap.size w wr) (fun _ cv _ => n - (intOf cv).toNat)
    case atStart => exact ⟨0, Nat.zero_le _, rfl, rfl, Below.refl _ _⟩
    case round =>
      obtain ⟨k, hk, rfl, rfl, hb⟩ := hrel
      have hcl := Co.cntTo_le (fun i => decide (m i = m u)) k
      have HB := Nu.hid hb
      by_cases hkn : k < n
      · have hk0 : (0 : Int) ≤ (k : Int) := by omega
        have hk1 : (k : Int) < (n : Int) := by omega
        obtain ⟨b, o, rfl, c0⟩ := RefAt.cell (IntsAt.later HR.out hb) hkn
        obtain ⟨b', o', e', c1⟩ := RefAt.cell (IntsAt.later HR.out hb) hul
        cases e'
        have hsucc : Co.cntTo (fun i => decide (m i = m u)) (k + 1) = Co.cntTo (fun i => decide (m i = m u)) k + (if decide (m k = m u) then 1 else 0) := rfl
        obtain ⟨z, hz⟩ : ∃ z, Co.cntTo (fun i => decide (m i = m u)) k = z := ⟨_, rfl⟩
        rw [hz] at hcl hsucc ⊢
        clear hb
        by_cases hf : m k = m u
        · have hd : ((m k : Int) == (m u : Int)) = true := by simp [hf]
          rw [decide_eq_true hf] at hsucc
          have HSU := Nu.hid hsucc
          clear hf hz hsucc
          go_wp2_with (go_at_call 32; refine (HV.out _).mono ?_; rintro e w1 ⟨rfl, hw1⟩; obtain rfl := hw1.symm)
          go_quiet (fail)
          go_wp2
          go_roundw
          case rel => exact ⟨k + 1, by omega, by go_num, by rw [HSU.out]; go_num, below_drewN HB.out _⟩
          case measure => simp [intOf]; omega
        · have hd : ((m k : Int) == (m u : Int)) = false := by simp; omega
          rw [decide_eq_false hf] at hsucc
          have HSU := Nu.hid hsucc
          clear hf hz hsucc
          go_wp2_with (go_at_call 32; refine (HV.out _).mono ?_; rintro e w1 ⟨rfl, hw1⟩; obtain rfl := hw1.symm)
          go_quiet (fail)
          go_wp2
          go_roundw
          case rel => exact ⟨k + 1, by omega, by go_num, by rw [HSU.out]; go_num, below_drewN HB.out _⟩
          case measure => simp [intOf]; omega
      · have hd : ¬ ((k : Int) < (n : Int)) := by omega
        obtain rfl : k = n := by omega
        clear hb
        go_wp2
        go_ret
        exact ⟨rfl, HB.out⟩
  · have HV := Nu.hid (fun W => rhas_no ao n c W x hx)
    unfold Co.sizeI
    rw [if_neg hx]
    clear hx
    go_enter Try.func36, Try.ntmps36
    by_cases h0 : (0 : Int) < (n : Int)
    · go_wp2
      go_loopw [5, 6] (fun s cv wr => cv = .int .i64 0 ∧ s = .int .i64 0 ∧ wr = w) (fun _ _ _ => 0)
      case atStart => exact ⟨rfl, rfl, rfl⟩
      case round =>
        obtain ⟨rfl, rfl, hwr⟩ := hrel
        obtain rfl := hwr.symm
        clear hwr
        go_wp2_with (go_at_call 32; refine (HV.out _).mono ?_; rintro e w1 ⟨rfl, hw1⟩; obtain rfl := hw1.symm)
        go_ret
        exact ⟨rfl, Below.refl _ _⟩
    · go_wp2
      go_loopw [5, 6] (fun s cv wr => cv = .int .i64 0 ∧ s = .int .i64 0 ∧ wr = w) (fun _ _ _ => 0)
      case atStart => exact ⟨rfl, rfl, rfl⟩
      case round =>
        obtain ⟨rfl, rfl, hwr⟩ := hrel
        obtain rfl := hwr.symm
        clear hwr
        go_wp2
        go_ret
        exact ⟨rfl, Below.refl _ _⟩

end Go.Proofs.Ytoaaihbeehpgfaa
