/-
  That the fixed fact of layer 5's statements is true.
-/
import Derived.Test.YtoaaihbeehpgfabCoOf
import Derived.Test.YtoaaihbeehpgfabCoSame
namespace Go.Proofs.Ytoaaihbeehpgfab
open Go.RowKit Go.Sort

/-- New, of a number that may be. -/
theorem new_yes (k : Nat) (w : World) (hk : k ≤ 1048576) : Calls Try.prog 5 #[.int .i64 (k : Int)] w fun e W => ∃ p gp gt : Nat, e = .returned (.tuple #[.pointer (some ⟨p, 0, none⟩), .int .i64 0]) ∧ (SetsOf W p gp gt k (fun x => x) ∧ w.heap.size ≤ p ∧ w.heap.size ≤ gp ∧ w.heap.size ≤ gt) ∧ Below w.heap.size w W :=
  (new_any k w).mono (by
    rintro e W ⟨⟨j, p, gp, gt, h1, h2, h3, h4⟩ | ⟨h1, _⟩, hb⟩
    · obtain rfl : k = j := by omega
      exact ⟨p, gp, gt, h3, h4, hb⟩
    · omega)

/-- New, of one that may not. -/
theorem new_no (n : Int) (w : World) (hn : n < 0 ∨ 1048576 < n) : Calls Try.prog 5 #[.int .i64 n] w fun e W => e = .returned (.tuple #[.pointer none, .int .i64 2]) ∧ Below w.heap.size w W :=
  (new_any n w).mono (by
    rintro e W ⟨⟨j, p, gp, gt, h1, h2, h3, h4⟩ | ⟨_, h1⟩, hb⟩
    · omega
    · exact ⟨h1, hb⟩)

def fix1 : Nat → Nat := Co.joinI 5 (fun x => x) 3 1
def fix2 : Nat → Nat := Co.joinI 5 fix1 1 3
theorem fix_a : Co.apart 5 (fun x => x) 3 1 = true := by decide
theorem fix_b : Co.apart 5 fix1 1 3 = false := by decide
theorem fix_least : Co.leastI 5 fix2 3 = 1 := by decide
theorem fix_cnt : (Co.cnt 5 fix2 : Int) = 4 := by decide
theorem fix_size : Co.sizeI 5 fix2 1 = 2 := by decide
theorem fix_same : Co.sameI 5 fix2 1 3 = true := by decide
theorem fix_not : Co.sameI 5 fix2 0 1 = false := by decide
def fixEs : List (Int × Int) := [(0, 2)]
theorem fix_val : Si.Val (3 : Nat) fixEs := by
  refine ⟨by decide, by decide, by decide, fun j p hj => ?_, fun j p q hp hq => ?_⟩
  · match j, hj with
    | 0, hj => cases hj; unfold Si.ok; decide
  · match j, hp, hq with
    | 0, hp, hq => cases hq
theorem fix_of : Co.ints 3 (Co.num (Co.ofG 3 fixEs)) = [0, 1, 0] := by decide
theorem fix_n : (Co.cnt 3 (Co.ofG 3 fixEs) : Int) = 2 := by decide

set_option maxRecDepth 100000 in
set_option maxHeartbeats 8000000 in
theorem fixed_any (w : World) : Calls Try.prog 4 #[] w fun e w' => e = .returned (.bool true) ∧ Below w.heap.size w w' := by
  have HN := Nu.hid (new_yes 5 w (by omega))
  have of0 : ∀ W, Calls Try.prog 9 #[.agg #[.int .i64 3, .slice (some ⟨W.heap.size, 0, none⟩) 1 1]] (W.alloc (.cells #[.int .i64 0, .int .i64 2] 28)) fun e w' => ∃ ao ca, e = .returned (.tuple #[.slice ao 3 ca, .int .i64 2, .int .i64 0]) ∧ IntsAt w' ao [0, 1, 0] ∧ Below W.heap.size W w' := fun W => by
    have hE : EdgesAt (W.alloc (.cells #[.int .i64 0, .int .i64 2] 28)) (some ⟨W.heap.size, 0, none⟩) fixEs := fun j p hj => by
      refine ⟨W.heap.size, 0, rfl, ?_⟩
      match j, hj with
      | 0, hj => cases hj; simp
    have hb0 : Below W.heap.size W (W.alloc (.cells #[.int .i64 0, .int .i64 2] 28)) := (Below.refl _ _).alloc (Nat.le_refl _) _
    refine (of_any 3 _ 1 fixEs _ hE (by decide)).mono ?_
    rintro e w' ⟨⟨m, v, h1, h2, h3, h4⟩ | ⟨h1, _⟩, hb⟩
    · obtain rfl : m = 3 := by omega
      rw [fix_of] at h4
      obtain ⟨ao, ca, rfl, h5, -⟩ := h4.form
      exact ⟨ao, ca, by rw [h3, fix_n]; rfl, h5, hb0.trans (hb.mono hb0.size)⟩
    · have h2 := h1.symm.trans (Si.valid_iff.2 fix_val)
      cases h2
  have HOF := Nu.hid of0
  clear of0
  go_enter Try.func4, Try.ntmps4
  go_wp2_with (go_at_call 5; refine HN.out.mono ?_; rintro e w1 ⟨p, gp, gt, rfl, hs, hb1⟩; have HS := Nu.hid hs; have HB1 := Nu.hid hb1; clear hs hb1; refine Hid.out ?_)
  refine Nu.hid ?_
  obtain ⟨hs0, b1, b2, b3⟩ := HS.out
  have hj1 := (join_any (some (p, gp, gt)) 5 (fun x => x) 3 1 w1 hs0).mono (R' := fun e W => e = .returned (.bool true) ∧ SetsQ W (some (p, gp, gt)) 5 fix1 ∧ Below w.heap.size w W) (by
    rintro e W ⟨h1, h2, h3⟩
    exact ⟨by rw [h1, fix_a], h2, HB1.out.trans (h3.below HB1.out.size (by rintro x (rfl | rfl | rfl) <;> assumption))⟩)
  have hj2 : ∀ w2, SetsQ w2 (some (p, gp, gt)) 5 fix1 → Below w.heap.size w w2 → Calls Try.prog 6 #[.pointer (some ⟨p, 0, none⟩), .int .i64 1, .int .i64 3] w2 fun e W => e = .returned (.bool false) ∧ SetsQ W (some (p, gp, gt)) 5 fix2 ∧ Below w.heap.size w W := fun w2 hq hb => (join_any (some (p, gp, gt)) 5 fix1 1 3 w2 hq).mono (by
    rintro e W ⟨h1, h2, h3⟩
    exact ⟨by rw [h1, fix_b], h2, hb.trans (h3.below hb.size (by rintro x (rfl | rfl | rfl) <;> assumption))⟩)
  have HJ1 := Nu.hid hj1
  have HJ2 := Nu.hid hj2
  unfold ptrQ at HJ1
  clear hj1 hj2 hs0 HN HS
  go_wp2_with (go_at_call 6; refine HJ1.out.mono ?_; rintro e w2 ⟨rfl, hq2, hb2⟩; have HQ2 := Nu.hid hq2; have HB2 := Nu.hid hb2; clear hq2 hb2; refine Hid.out ?_)
  refine Nu.hid ?_
  have HJ3 := Nu.hid (HJ2.out w2 HQ2.out HB2.out)
  clear HJ1 HJ2
  go_wp2_with (go_at_call 6; refine HJ3.out.mono ?_; rintro e w3 ⟨rfl, hq3, hb3⟩; have HQ3 := Nu.hid hq3; have HB3 := Nu.hid hb3; clear hq3 hb3; refine Hid.out ?_)
  refine Nu.hid ?_
  clear HJ3
  go_wp2_with (go_at_call 9; refine (HOF.out _).mono ?_; rintro e w4 ⟨ao, ca, rfl, ho, hb4⟩; have HO := Nu.hid ho; have HB4 := Nu.hid hb4; clear ho hb4; refine Hid.out ?_)
  refine Nu.hid ?_
  have hQ4 : IsSets w4 (some ⟨p, 0, none⟩) 5 fix2 := (HQ3.out.later HB4.out).is
  have HB4' := Nu.hid (HB3.out.trans (HB4.out.mono HB3.out.size))
  have hL := fun k => least_any _ _ _ 3 _ (hQ4.drewN k)
  have hC := fun k => count_any _ _ _ _ (hQ4.drewN k)
  have hZ := fun k => size_any _ _ _ 1 _ (hQ4.drewN k)
  have hS := fun k x y => same_any _ _ _ x y _ (hQ4.drewN k)
  rw [fix_least] at hL
  rw [fix_cnt] at hC
  rw [fix_size] at hZ
  have HL := Nu.hid hL
  have HC := Nu.hid hC
  have HZ := Nu.hid hZ
  have HS := Nu.hid hS
  have hI : ∀ k, Calls Try.prog 10 #[.slice ao 3 ca, .slice (some ⟨w4.heap.size, 0, none⟩) 3 3] ((w4.alloc (.cells #[.int .i64 0, .int .i64 1, .int .i64 0] 3)).drewN k) fun e w' => e = .returned (.bool true) ∧ Below w4.heap.size w4 w' := fun k => by
    have hb : Below w4.heap.size w4 ((w4.alloc (.cells #[.int .i64 0, .int .i64 1, .int .i64 0] 3)).drewN k) := below_drewN ((Below.refl _ _).alloc (Nat.le_refl _) _) k
    have hat : IntsAt ((w4.alloc (.cells #[.int .i64 0, .int .i64 1, .int .i64 0] 3)).drewN k) (some ⟨w4.heap.size, 0, none⟩) [0, 1, 0] := fun j x hj => by
      refine ⟨w4.heap.size, 0, rfl, ?_⟩
      match j, hj with
      | 0, hj => cases hj; simp
      | 1, hj => cases hj; simp
      | 2, hj => cases hj; simp
    refine (sameints_any ao (some ⟨w4.heap.size, 0, none⟩) ca 3 3 3 [0, 1, 0] [0, 1, 0] _ rfl rfl (HO.out.later hb) hat (by omega)).mono ?_
    rintro e w' ⟨h1, h2⟩
    exact ⟨by rw [h1]; rfl, hb.trans (h2.mono hb.size)⟩
  have HI := Nu.hid hI
  have s1 := fix_same
  have s2 := fix_not
  clear hL hC hZ hS hI hQ4 HOF
  go_wp2_with (first
    | (go_at_call 13; refine (HL.out 0).mono ?_; rintro e w5 ⟨rfl, k5, rfl⟩)
    | (go_at_call 14; refine (HC.out _).mono ?_; rintro e w5 ⟨rfl, rfl⟩)
    | (go_at_call 15; refine (HZ.out _).mono ?_; rintro e w5 ⟨rfl, k6, rfl⟩)
    | (go_at_call 16; refine (HS.out _ _ _).mono ?_; rintro e w5 ⟨rfl, k6, rfl⟩)
    | (go_at_call 10; refine (HI.out _).mono ?_; rintro e w5 ⟨rfl, hb5⟩; have HB5 := Nu.hid hb5; clear hb5))
  go_ret
  exact ⟨rfl, HB4'.out.trans (HB5.out.mono HB4'.out.size)⟩

end Go.Proofs.Ytoaaihbeehpgfab
