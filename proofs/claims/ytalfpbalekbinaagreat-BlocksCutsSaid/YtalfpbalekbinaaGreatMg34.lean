import Derived.Test.YtalfpbalekbinaaGreatMg33
import Derived.Test.YtalfpbalekbinaaGreatMg09
import Derived.BigRegion
import Derived.Deep.RegionLaw
import Derived.Deep.RegionHeld3
import Derived.Deep.CutBlock
import Derived.Deep.CutRange
import Derived.Test.YtalfpbalekbinaaGreatMg02
import Derived.Test.YtalfpbalekbinaaGreatMg03
import Derived.Test.YtalfpbalekbinaaGreatMg20
import Derived.Test.YtalfpbalekbinaaGreatMg01
/-
  The number of each number's set; the components of a graph; isolated vertices.
-/
namespace Go.Proofs.YtalfpbalekbinaaGreat
open Go.RowKit

namespace Co
/-- Is it the least of its set? -/
def fix (m : Nat → Nat) (i : Nat) : Bool := decide (m i = i)
/-- The number of a's set. -/
def num (m : Nat → Nat) (a : Nat) : Nat := cntTo (fix m) (m a)
theorem cnt_fix (n : Nat) (m : Nat → Nat) : cntTo (fix m) n = cnt n m := rfl
theorem num_self {m : Nat → Nat} {a : Nat} (h : m a = a) : num m a = cntTo (fix m) a := by unfold num; rw [h]
theorem num_least {n : Nat} {m : Nat → Nat} (hn : Norm n m) {a : Nat} (ha : a < n) : num m (m a) = num m a := by unfold num; rw [hn.idem a ha]
theorem fix_succ_yes {m : Nat → Nat} {a : Nat} (h : m a = a) : cntTo (fix m) (a + 1) = cntTo (fix m) a + 1 := by
  conv => lhs; unfold cntTo
  rw [if_pos (by simpa [fix] using h)]
theorem fix_succ_no {m : Nat → Nat} {a : Nat} (h : m a ≠ a) : cntTo (fix m) (a + 1) = cntTo (fix m) a := by
  conv => lhs; unfold cntTo
  rw [if_neg (by simpa [fix] using h)]
  rfl
theorem leastI_in {n : Nat} {m : Nat → Nat} {a : Nat} (h : a < n) : leastI n m (a : Int) = (m a : Int) := by
  unfold leastI
  rw [if_pos ⟨by omega, by omega⟩, Int.toNat_natCast]
theorem sizeI_in {n : Nat} {m : Nat → Nat} {a : Nat} (h : a < n) : sizeI n m (a : Int) = (size n m a : Int) := by
  unfold sizeI
  rw [if_pos ⟨by omega, by omega⟩, Int.toNat_natCast]
end Co

def NumPost (n : Nat) (m : Nat → Nat) (w : World) (e : Ending) (w' : World) : Prop :=
  ∃ v, e = .returned v ∧ OwnZ w' w.heap.size v (Co.ints n (Co.num m)) ∧ Below w.heap.size w w'

set_option maxRecDepth 100000 in
set_option maxHeartbeats 8000000 in
theorem numbered_any (v : Option Addr) (n : Nat) (m : Nat → Nat) (w : World) (h : IsSets w v n m) : Calls Tryz.prog 24 #[.pointer v] w (NumPost n m w) := by
  obtain ⟨i0, hi, hz0, hz1, hz2⟩ := info_parts Tryz.infoNum
  have hn := h.bound
  have HNORM := Nu.hid h.norm
  have hle : ∀ W a, a < n → Below w.heap.size w W → Calls Tryz.prog 41 #[.pointer v, .int .i64 (a : Int)] W fun e w' => e = .returned (.int .i64 (m a : Int)) ∧ ∃ k, w' = W.drewN k := fun W a ha hb => by
    have := least_any v n m a W (h.later hb)
    rw [Co.leastI_in ha] at this
    exact this
  have HLE := Nu.hid hle
  clear hle
  rcases h with ⟨rfl, rfl⟩ | ⟨p, gp, gt, rfl, -, P, S, L, r, d, h, -⟩
  · go_enter Tryz.func24, Tryz.ntmps24
    go_wp2
    go_ret
    exact ⟨_, rfl, OwnZ.nil _ _, Below.refl _ _⟩
  · have c0 := h.c0
    clear h
    go_enter Tryz.func24, Tryz.ntmps24
    go_wp2_with (at_make; refine wpList_make_full _ rfl _ _ 26 rfl w.heap.size 3 i0 (.int .i64 0) 1 Tryz.underlying26 hi hz0 hz1 _ _ _ _ n rfl rfl rfl rfl (by rw [hz2]; omega) (by unfold maxLen; omega) (Nat.le_refl _) ?_; refine Hid.out ?_)
    refine Nu.hid ?_
    intro w2 hrow hg2
    rw [made_zeros] at hrow
    have hik := ints_of_row hrow
    rw [← Co.ints_zero] at hik
    have hb2 : Below w.heap.size w w2 := (Below.refl _ _).grown hg2 (Nat.le_refl _) (fun j hj => by cases hj)
    have HI2 := Nu.hid hik
    have HB2 := Nu.hid hb2
    clear hrow hg2 hik hb2
    go_wp2
    go_loopw [4, 17] (fun s c wr => ∃ (k : Nat) (F : Nat → Nat), k ≤ n ∧ c = .int .i64 (k : Int) ∧ s = .int .i64 (Co.cntTo (Co.fix m) k : Int) ∧ (∀ i, i < k → F i = Co.num m i) ∧ IntsBlk wr w.heap.size (Co.ints n F) ∧ Below w.heap.size w wr) (fun _ c _ => n - (intOf c).toNat)
    case atStart => exact ⟨0, _, Nat.zero_le _, rfl, rfl, fun i hi => by omega, HI2.out, HB2.out⟩
    case round =>
      obtain ⟨k, F, hk, rfl, rfl, hF, hiS, hb⟩ := hrel
      have hcl := Co.cntTo_le (Co.fix m) k
      by_cases hkn : k < n
      · have hk0 : (0 : Int) ≤ (k : Int) := by omega
        have hk1 : (k : Int) < (n : Int) := by omega
        have HL := Nu.hid (HLE.out wr k hkn hb)
        have HF := Nu.hid hF
        have HIS := Nu.hid hiS
        have HB := Nu.hid hb
        clear hF hiS hb
        by_cases hf : m k = k
        · have hd : ((m k : Int) == (k : Int)) = true := by simp [hf]
          have hsucc := Co.fix_succ_yes hf
          have hnum := Co.num_self hf
          have HSU := Nu.hid hsucc
          have HNU := Nu.hid hnum
          obtain ⟨z, hz⟩ : ∃ z, Co.cntTo (Co.fix m) k = z := ⟨_, rfl⟩
          rw [hz] at hcl HSU HNU ⊢
          clear hsucc hnum hz hf
          go_wp2_with (go_at_call 41; refine HL.out.mono ?_; rintro e w3 ⟨rfl, q, hw3⟩; have HW3 := Nu.hid hw3; clear hw3; refine Hid.out ?_)
          refine Nu.hid ?_
          have i3 : IntsBlk w3 w.heap.size (Co.ints n F) := by rw [HW3.out]; exact HIS.out
          have b3 : Below w.heap.size w w3 := by rw [HW3.out]; exact below_drewN HB.out q
          have cx := i3.cell (Co.ints_at (f := F) hkn)
          have cf := i3.free
          have n1 := i3.set k (z : Int)
          rw [Co.ints_set z hkn] at n1
          have HN1 := Nu.hid n1
          have HB3 := Nu.hid (b3.setCell (p := ⟨w.heap.size, k, none⟩) (Nat.le_refl _) (.int .i64 (z : Int)))
          clear i3 b3 n1
          go_wp2
          go_roundw
          case rel =>
            refine ⟨k + 1, _, by omega, by go_num, by rw [HSU.out]; go_num, fun i hi => ?_, HN1.out, HB3.out⟩
            by_cases e : i = k
            · subst e; rw [Co.upd_same, HNU.out]
            · rw [Co.upd_other _ e]; exact HF.out i (by omega)
          case measure => simp [intOf]; omega
        · have hd : ((m k : Int) == (k : Int)) = false := by simp; omega
          have hml := HNORM.out.le k hkn
          have hmk : m k < k := by omega
          have hsucc := Co.fix_succ_no hf
          have HSU := Nu.hid hsucc
          have hnum := Co.num_least HNORM.out hkn
          have hfm := HF.out (m k) hmk
          rw [hnum] at hfm
          have HFM := Nu.hid hfm
          obtain ⟨z, hz⟩ : ∃ z, Co.cntTo (Co.fix m) k = z := ⟨_, rfl⟩
          rw [hz] at hcl HSU ⊢
          obtain ⟨y, hy⟩ : ∃ y, m k = y := ⟨_, rfl⟩
          rw [hy] at hmk HL hd HFM
          have y0 : (0 : Int) ≤ (y : Int) := by omega
          have y1 : (y : Int) < (n : Int) := by omega
          clear hsucc hnum hfm hz hf hy hml
          go_wp2_with (go_at_call 41; refine HL.out.mono ?_; rintro e w3 ⟨rfl, q, hw3⟩; have HW3 := Nu.hid hw3; clear hw3; refine Hid.out ?_)
          refine Nu.hid ?_
          have i3 : IntsBlk w3 w.heap.size (Co.ints n F) := by rw [HW3.out]; exact HIS.out
          have b3 : Below w.heap.size w w3 := by rw [HW3.out]; exact below_drewN HB.out q
          have cx := i3.cell (Co.ints_at (f := F) hkn)
          have cy := i3.cell (Co.ints_at (f := F) (show y < n by omega))
          have cf := i3.free
          have n1 := i3.set k (F y : Int)
          rw [Co.ints_set (F y) hkn] at n1
          have HN1 := Nu.hid n1
          have HB3 := Nu.hid (b3.setCell (p := ⟨w.heap.size, k, none⟩) (Nat.le_refl _) (.int .i64 (F y : Int)))
          clear i3 b3 n1
          go_wp2
          go_roundw
          case rel =>
            refine ⟨k + 1, _, by omega, by go_num, by rw [HSU.out], fun i hi => ?_, HN1.out, HB3.out⟩
            by_cases e : i = k
            · subst e; rw [Co.upd_same, HFM.out]
            · rw [Co.upd_other _ e]; exact HF.out i (by omega)
          case measure => simp [intOf]; omega
      · have hd : ¬ ((k : Int) < (n : Int)) := by omega
        obtain rfl : k = n := by omega
        rw [Co.ints_congr hF] at hiS
        have HIS := Nu.hid hiS
        have HB := Nu.hid hb
        clear hF hiS hb
        go_wp2
        go_ret
        exact ⟨_, rfl, HIS.out.own (Nat.le_refl _) (Co.ints_length _ _) (by omega), HB.out⟩

end Go.Proofs.YtalfpbalekbinaaGreat

/-
  Join.
-/
namespace Go.Proofs.YtalfpbalekbinaaGreat
open Go.RowKit

set_option maxRecDepth 100000 in
set_option maxHeartbeats 8000000 in
theorem join_any (q : Option (Nat × Nat × Nat)) (n : Nat) (m : Nat → Nat) (x y : Int) (w : World) (h : SetsQ w q n m) : Calls Tryz.prog 23 #[.pointer (ptrQ q), .int .i64 x, .int .i64 y] w (JoinPost q n m x y w) := by
  have hvt : ∀ z, Co.isIn n z → Calls Tryz.prog 37 #[.pointer (ptrQ q), .int .i64 z] w fun e w' => e = .returned (.bool true) ∧ w' = w := fun z hz => by
    have := has_any (ptrQ q) n m z w h.is
    rw [decide_eq_true hz] at this
    exact this
  have hvf : ∀ z, ¬ Co.isIn n z → Calls Tryz.prog 37 #[.pointer (ptrQ q), .int .i64 z] w fun e w' => e = .returned (.bool false) ∧ w' = w := fun z hz => by
    have := has_any (ptrQ q) n m z w h.is
    rw [decide_eq_false hz] at this
    exact this
  have HVT := Nu.hid hvt
  have HVF := Nu.hid hvf
  clear hvt hvf
  by_cases hx : Co.isIn n x
  · by_cases hy : Co.isIn n y
    · have hxl := Co.isIn_lt hx
      have hyl := Co.isIn_lt hy
      rcases q with _ | ⟨p, gp, gt⟩
      · obtain rfl : n = 0 := h
        omega
      · obtain ⟨hn, P, S, L, r, d, h, hf⟩ := h
        obtain ⟨a, rfl⟩ : ∃ u : Nat, x = (u : Int) := ⟨x.toNat, by unfold Co.isIn at hx; omega⟩
        obtain ⟨b, rfl⟩ : ∃ u : Nat, y = (u : Int) := ⟨y.toNat, by unfold Co.isIn at hy; omega⟩
        rw [Int.toNat_natCast] at hxl hyl
        have HR := Nu.hid (fun k (z : Nat) (hz : z < n) => root_of h hf hz k)
        have c0 := h.c0
        have hsm := hf.same a b hxl hyl
        unfold ptrQ at *
        by_cases he : r a = r b
        · have hd : ((r a : Int) == (r b : Int)) = true := by simp [he]
          have hap : Co.apart n m a b = false := by
            unfold Co.apart
            refine decide_eq_false (fun h => h.2.2 ?_)
            simpa using hsm.1 he
          have HEND : Hid (∀ k, JoinPost (some (p, gp, gt)) n m a b w (.returned (.bool false)) (w.drewN k)) := by
            intro k
            refine ⟨by rw [hap], ?_, (Wrote.refl _ _).drewN k⟩
            have hj : Co.joinI n m a b = m := by unfold Co.joinI; rw [hap]; rfl
            rw [hj]
            exact SetsQ.later (q := some (p, gp, gt)) (w := w) ⟨hn, P, S, L, r, d, h, hf⟩ (below_drewN (Below.refl _ _) k)
          clear h hf hsm hap he
          go_enter Tryz.func23, Tryz.ntmps23
          go_wp2_with (go_at_call 37; refine (HVT.out _ (by assumption)).mono ?_; rintro e w1 ⟨rfl, rfl⟩)
          go_quiet ((go_at_call 38; refine Calls.quiet_of_same (HR.out _ _ ?_); assumption))
          go_wp2
          go_ret
          exact HEND.out nq
        · have hd : ((r a : Int) == (r b : Int)) = false := by simp; omega
          have hma : m a ≠ m b := fun e => he (hsm.2 e)
          have hap : Co.apart n m a b = true := Co.apart_iff.2 ⟨hx, hy, by simpa using hma⟩
          have hj : Co.joinI n m a b = Co.join m a b := by unfold Co.joinI; rw [hap]; simp
          obtain ⟨c, hc⟩ : ∃ c, Co.cnt n (Co.join m a b) = c := ⟨_, rfl⟩
          have hcc := Co.cnt_join hf.norm hxl hyl hma
          rw [hc] at hcc
          rw [← hcc] at h
          have hra := hf.rt a hxl
          have hrb := hf.rt b hyl
          have c1 := h.c1
          have sa := (h.tre.cell hra).1
          have sb := (h.tre.cell hrb).1
          have ra0 : (0 : Int) ≤ (r a : Int) := by omega
          have ra1 : (r a : Int) < (n : Int) := by omega
          have rb0 : (0 : Int) ≤ (r b : Int) := by omega
          have rb1 : (r b : Int) < (n : Int) := by omega
          have hcn : c ≤ 1048576 := by have := Co.cnt_le n m; omega
          have HALL : Hid (∀ a' b', ((a' = a ∧ b' = b) ∨ (a' = b ∧ b' = a)) → a' < n ∧ b' < n ∧ r a' ≠ r b' ∧ Co.join m a' b' = Co.join m a b) := by
            rintro a' b' (⟨rfl, rfl⟩ | ⟨rfl, rfl⟩)
            · exact ⟨hxl, hyl, he, rfl⟩
            · exact ⟨hyl, hxl, Ne.symm he, Co.join_comm m _ _⟩
          have HH := Nu.hid h
          have HF := Nu.hid hf
          have HJ := Nu.hid hj
          have HC := Nu.hid hc
          have HAP := Nu.hid hap
          clear h hf hsm hap hj hc hcc hma he
          go_enter Tryz.func23, Tryz.ntmps23
          go_wp2_with (go_at_call 37; refine (HVT.out _ (by assumption)).mono ?_; rintro e w1 ⟨rfl, hw1⟩; obtain rfl := hw1.symm)
          go_quiet ((go_at_call 38; refine Calls.quiet_of_same (HR.out _ _ ?_); assumption))
          clear HVT HVF HR
          go_wp2_with fail
          go_quiet (fail)
          go_upto_if 50 with fail
          go_cut [7, 8] from 50 to 52 (fun u v wr => ∃ (a' b' k : Nat), u = .int .i64 (r a' : Int) ∧ v = .int .i64 (r b' : Int) ∧ ((a' = a ∧ b' = b) ∨ (a' = b ∧ b' = a)) ∧ wr = w.drewN k)
          case first =>
            by_cases hlt : S (r a) < S (r b)
            · have hlti : (S (r a) : Int) < (S (r b) : Int) := by omega
              go_wp2
              go_meet
              exact ⟨b, a, _, rfl, rfl, .inr ⟨rfl, rfl⟩, by first | rfl | rw [World.drewN_drewN]⟩
            · have hlti : ¬ (S (r a) : Int) < (S (r b) : Int) := by omega
              go_wp2
              go_meet
              exact ⟨a, b, _, rfl, rfl, .inl ⟨rfl, rfl⟩, by first | rfl | rw [World.drewN_drewN]⟩
          case rest =>
            obtain ⟨a', b', k, rfl, rfl, hor, hwc⟩ := hcut
            obtain ⟨hal, hbl, hrne, hjj⟩ := HALL.out a' b' hor
            have hH : SetsHolds wc p gp gt n (c + 1) P S L := by rw [hwc]; exact HH.out.same (fun _ _ _ => rfl)
            have HWR0 : Hid (∀ V, Wrote (fun b => b = p ∨ b = gp ∨ b = gt) wc V → Wrote (fun b => b = p ∨ b = gp ∨ b = gt) w V) := by
              intro V hV
              rw [hwc] at hV
              exact ((Wrote.refl _ w).drewN k).trans hV
            have hA := HF.out.rt a' hal
            have hC := HF.out.rt b' hbl
            obtain ⟨r', d', hnew⟩ := HF.out.hang hal hbl hrne
            have hS1 : S (r a') ≤ 1048576 := by rw [HF.out.sz a' hal]; exact Nat.le_trans (Co.size_le _ _ _) hn
            have hS2 : S (r b') ≤ 1048576 := by rw [HF.out.sz b' hbl]; exact Nat.le_trans (Co.size_le _ _ _) hn
            obtain ⟨A, hAA⟩ : ∃ A, r a' = A := ⟨_, rfl⟩
            obtain ⟨C, hCC⟩ : ∃ C, r b' = C := ⟨_, rfl⟩
            rw [hAA] at hA hnew hS1 ⊢
            rw [hCC] at hC hnew hS2 ⊢
            have HHG := Nu.hid (hang_any gp n P C A wc hH.par hC)
            have HWI := Nu.hid (fun V => with_any (S A) (L A) (S C) (L C) V hS1 hS2)
            obtain ⟨s, hs⟩ : ∃ s, S A + S C = s := ⟨_, rfl⟩
            obtain ⟨l, hl⟩ : ∃ l, min (L A) (L C) = l := ⟨_, rfl⟩
            rw [hs, hl] at HWI hnew
            have HFIN : Hid (∀ W V1, W = wc.setCell ⟨gp, C, none⟩ (.int .i64 (A : Int)) → Below W.heap.size W V1 → JoinPost (some (p, gp, gt)) n m a b w (.returned (.bool true)) (((V1.setCell ⟨gt, A * 2, none⟩ (.int .i64 (s : Int))).setCell ⟨gt, A * 2 + 1, none⟩ (.int .i64 (l : Int))).setCell ⟨p, 2, none⟩ (.int .i64 (c : Int)))) := by
              intro W V1 hW hV
              obtain ⟨f1, f2, -⟩ := joined_blocks hH hC hA s l hW hV
              refine ⟨by rw [HAP.out], ?_, HWR0.out _ f2⟩
              rw [HJ.out, ← hjj]
              rw [hjj] at hnew ⊢
              exact ⟨hn, _, _, _, r', d', by rw [HC.out]; exact f1, hnew⟩
            have c0 := hH.c0
            have HMID := Nu.hid (fun W V1 (hW : W = wc.setCell ⟨gp, C, none⟩ (.int .i64 (A : Int))) hV => join_mid (V1 := V1) hH hC hA s l hW hV)
            have A0 : (0 : Int) ≤ (A : Int) := by omega
            have A1 : (A : Int) < (n : Int) := by omega
            have C0 : (0 : Int) ≤ (C : Int) := by omega
            have C1 : (C : Int) < (n : Int) := by omega
            clear hH hwc hnew hs hl hAA hCC hrne hjj hor HALL HH HF HJ HC HAP HWR0 c1 sa sb hd
            go_wp2_with (go_at_call 39; refine HHG.out.mono ?_; rintro e w1 ⟨rfl, -, hw1⟩; have HW1 := Nu.hid hw1; clear hw1; refine Hid.out ?_)
            refine Nu.hid ?_
            clear c0 HHG
            have hbd : Below w1.heap.size w1 w1.drew := (Below.refl _ _).drew
            obtain ⟨⟨x1, x2, x3, x4, x5, x6⟩, -, -⟩ := HMID.out w1 w1 HW1.out (Below.refl _ _)
            go_wp2_with fail
            go_region_with (go_at_call 40; refine (HWI.out _).mono ?_; rintro e V1 ⟨rfl, hv1⟩; have hb1 : Below w1.heap.size w1 V1 := hbd.trans (hv1.mono hbd.size); obtain ⟨⟨y1, y2, y3, -, -, y6⟩, ⟨z1, z2⟩, -, z4, z5⟩ := HMID.out w1 V1 HW1.out hb1)
            all_goals
              go_wp2
              go_ret
              exact HFIN.out w1 V1 HW1.out hb1
    · have hap : Co.apart n m x y = false := by
        unfold Co.apart
        exact decide_eq_false (fun h => hy h.2.1)
      have hj : Co.joinI n m x y = m := by unfold Co.joinI; rw [hap]; rfl
      unfold JoinPost
      rw [hap, hj]
      have H := Nu.hid h
      clear h hap hj
      go_enter Tryz.func23, Tryz.ntmps23
      go_wp2_with (go_at_call 37; first | (refine (HVT.out _ (by assumption)).mono ?_; rintro e w1 ⟨rfl, rfl⟩) | (refine (HVF.out _ (by assumption)).mono ?_; rintro e w1 ⟨rfl, rfl⟩))
      go_ret
      exact ⟨rfl, H.out, Wrote.refl _ _⟩
  · have hap : Co.apart n m x y = false := by
      unfold Co.apart
      exact decide_eq_false (fun h => hx h.1)
    have hj : Co.joinI n m x y = m := by unfold Co.joinI; rw [hap]; rfl
    unfold JoinPost
    rw [hap, hj]
    have H := Nu.hid h
    clear h hap hj
    go_enter Tryz.func23, Tryz.ntmps23
    go_wp2_with (go_at_call 37; refine (HVF.out _ (by assumption)).mono ?_; rintro e w1 ⟨rfl, rfl⟩)
    go_ret
    exact ⟨rfl, H.out, Wrote.refl _ _⟩

end Go.Proofs.YtalfpbalekbinaaGreat

/-
  Of.
-/
namespace Go.Proofs.YtalfpbalekbinaaGreat
open Go.RowKit Go.Sort

/-- The sets that the edges make. -/
def Co.ofG (n : Nat) (es : List (Int × Int)) : Nat → Nat := Co.joins n es (fun x => x)

theorem Co.ofG_gen (n : Nat) (es : List (Int × Int)) : Co.Gen n es (Co.ofG n es) := Co.gen_joins n es

def OfPost (n : Int) (es : List (Int × Int)) (w : World) (e : Ending) (w' : World) : Prop :=
  ((∃ (m : Nat) (v : Value), n = (m : Int) ∧ Si.Val n es ∧ e = .returned (.tuple #[v, .int .i64 (Co.cnt m (Co.ofG m es) : Int), .int .i64 0]) ∧ OwnZ w' w.heap.size v (Co.ints m (Co.num (Co.ofG m es)))) ∨ (Si.valid n es = false ∧ e = .returned (.tuple #[.slice none 0 0, .int .i64 0, .int .i64 1]))) ∧ Below w.heap.size w w'

set_option maxRecDepth 100000 in
set_option maxHeartbeats 8000000 in
theorem of_any (n : Int) (ao : Option Addr) (cap : Nat) (es : List (Int × Int)) (w : World) (he : EdgesAt w ao es) (hl : es.length ≤ 4611686018427387904) :
    Calls Tryz.prog 9 #[graphVal n ao es.length cap] w (OfPost n es w) := by
  have HE := Nu.hid he
  have hva := fun W (hb : Below w.heap.size w W) => valid_any n ao cap es W (he.later hb) hl
  unfold graphVal at hva ⊢
  have HVA := Nu.hid hva
  clear he hva
  have hbw0 : Below w.heap.size w (w.alloc (.cells #[.int .i64 n, .slice ao es.length cap] 24)) := (Below.refl _ _).alloc (Nat.le_refl _) _
  have HBW0 := Nu.hid hbw0
  clear hbw0
  cases hv : Si.valid n es with
  | false =>
    rw [hv] at HVA
    have HV := Nu.hid hv
    clear hv
    go_enter Tryz.func9, Tryz.ntmps9
    go_wp2_with (go_at_call 21; refine (HVA.out _ HBW0.out).mono ?_; rintro e w' ⟨rfl, hb⟩; refine Hid.out ?_)
    refine Nu.hid ?_
    have HB := Nu.hid (HBW0.out.trans (hb.mono HBW0.out.size))
    clear hb
    go_wp2
    go_ret3
    exact ⟨.inr ⟨HV.out, rfl⟩, HB.out⟩
  | true =>
    rw [hv] at HVA
    have hval := Si.valid_iff.1 hv
    have hfew := hval.few
    have hlo := hval.lo
    have hhi := hval.hi
    obtain ⟨m, rfl⟩ : ∃ m : Nat, n = (m : Int) := ⟨n.toNat, by omega⟩
    have HVAL := Nu.hid hval
    clear hval hv
    have HNEW := Nu.hid (fun W => new_any (m : Int) W)
    go_enter Tryz.func9, Tryz.ntmps9
    go_wp2_with (go_at_call 21; refine (HVA.out _ HBW0.out).mono ?_; rintro e w' ⟨rfl, hb⟩; refine Hid.out ?_)
    refine Nu.hid ?_
    have hG : w'.heap[w.heap.size]? = some (.cells #[.int .i64 m, .slice ao es.length cap] 24 (0, 0)) := (hb.block _ (by simp)).trans (heap_alloc_new w _)
    have HB := Nu.hid (HBW0.out.trans (hb.mono HBW0.out.size))
    have hsG := lt_of_block hG
    have HG := Nu.hid hG
    obtain ⟨g0, g1, -⟩ := pair_cells hG
    clear hb hG HVA
    have hnew := (HNEW.out w').mono (R' := fun e W => ∃ p gp gt : Nat, e = .returned (.tuple #[.pointer (some ⟨p, 0, none⟩), .int .i64 0]) ∧ (SetsOf W p gp gt m (fun x => x) ∧ w'.heap.size ≤ p ∧ w'.heap.size ≤ gp ∧ w'.heap.size ≤ gt) ∧ Below w'.heap.size w' W) (by
      rintro e W ⟨⟨k, p, gp, gt, h1, h2, h3, h4⟩ | ⟨h1, _⟩, hb⟩
      · obtain rfl : m = k := by omega
        exact ⟨p, gp, gt, h3, h4, hb⟩
      · omega)
    have HN := Nu.hid hnew
    clear hnew HNEW
    go_wp2_with (go_at_call 22; refine HN.out.mono ?_; rintro e w2 ⟨p, gp, gt, rfl, hs, hb2⟩; have HS2 := Nu.hid hs; have HB2 := Nu.hid hb2; clear hs hb2; refine Hid.out ?_)
    refine Nu.hid ?_
    obtain ⟨hs0, b1, b2, b3⟩ := HS2.out
    have k1 := (HB2.out.cell (p := ⟨w.heap.size, 1, none⟩) hsG).trans g1
    have HBW2 := Nu.hid (HB.out.trans (HB2.out.mono HB.out.size))
    have hsw := HB.out.size
    have HQ0 : Hid (SetsQ w2 (some (p, gp, gt)) m (fun x => x)) := hs0
    clear hs0 HN g0 g1 HS2
    go_wp2
    go_loopw [21] (fun c wr => ∃ k : Nat, k ≤ es.length ∧ c = .int .i64 (k : Int) ∧ SetsQ wr (some (p, gp, gt)) m (Co.ofG m (es.take k)) ∧ Below w.heap.size w wr) (fun c _ => es.length - (intOf c).toNat)
    case atStart => exact ⟨0, Nat.zero_le _, rfl, HQ0.out, HBW2.out⟩
    case round =>
      obtain ⟨k, hk, rfl, hQ, hb⟩ := hrel
      have HQ := Nu.hid hQ
      have HBR := Nu.hid hb
      by_cases hlt : k < es.length
      · have hlti : (k : Int) < (es.length : Int) := by omega
        have hk0 : (0 : Int) ≤ (k : Int) := by omega
        obtain ⟨q, hq⟩ : ∃ q, es[k]? = some q := ⟨_, List.getElem?_eq_getElem hlt⟩
        obtain ⟨b, o, rfl, c0, c1⟩ := (HE.out.later hb) k q hq
        have hbl : b < wr.heap.size := block_lt_of_cell c0
        have hb3 : Below w.heap.size w (wr.alloc (.cells #[.int .i64 q.1, .int .i64 q.2] 46)) := hb.alloc hb.size _
        have hj := join_any (some (p, gp, gt)) m (Co.ofG m (es.take k)) q.1 q.2 _ (hQ.later ((Below.refl _ _).alloc (Nat.le_refl _) (.cells #[.int .i64 q.1, .int .i64 q.2] 46)))
        have hend : ∀ e w3, JoinPost (some (p, gp, gt)) m (Co.ofG m (es.take k)) q.1 q.2 (wr.alloc (.cells #[.int .i64 q.1, .int .i64 q.2] 46)) e w3 → (∃ t, e = .returned (.bool t)) ∧ SetsQ w3 (some (p, gp, gt)) m (Co.ofG m (es.take (k + 1))) ∧ Below w.heap.size w w3 := by
          rintro e w3 ⟨h1, h2, h3⟩
          refine ⟨⟨_, h1⟩, ?_, hb3.trans (h3.below hb3.size ?_)⟩
          · rw [Si.take_snoc hq]
            unfold Co.ofG
            rw [Co.joins_snoc]
            exact h2
          · rintro x (rfl | rfl | rfl) <;> omega
        have HJ := Nu.hid (hj.mono hend)
        clear hj hend hQ hb hb3 hq
        unfold ptrQ at HJ
        go_wp2_with (go_at_call 23; refine HJ.out.mono ?_; rintro e w3 ⟨⟨t, rfl⟩, h2, h3⟩; have H2 := Nu.hid h2; have H3 := Nu.hid h3; clear h2 h3; refine Hid.out ?_)
        refine Nu.hid ?_
        go_wp2
        go_roundw
        case rel => exact ⟨k + 1, by omega, by go_num, H2.out, H3.out⟩
        case measure => simp [intOf]; omega
      · have hd : ¬ ((k : Int) < (es.length : Int)) := by omega
        rw [List.take_of_length_le (by omega)] at hQ
        have hnum := numbered_any _ m _ wr hQ.is
        have hcnt := fun W (hb : Below wr.heap.size wr W) => count_any _ m _ W (hQ.later hb).is
        unfold ptrQ at hnum hcnt
        have HNUM := Nu.hid hnum
        have HCNT := Nu.hid hcnt
        have hwr := hb.size
        clear hQ hb hnum hcnt HQ
        go_wp2_with (first | (go_at_call 24; refine HNUM.out.mono ?_; rintro e w4 ⟨v, rfl, h4, hb4⟩; have H4 := Nu.hid h4; have HB4 := Nu.hid hb4; clear h4 hb4) | (go_at_call 25; refine (HCNT.out _ HB4.out).mono ?_; rintro e w5 ⟨rfl, hw5⟩; obtain rfl := hw5.symm))
        go_ret3
        exact ⟨.inl ⟨m, v, rfl, HVAL.out, rfl, H4.out.lower hwr⟩, HBR.out.trans (HB4.out.mono hwr)⟩

end Go.Proofs.YtalfpbalekbinaaGreat

/-
  Which vertices are met by edges.
-/
namespace Go.Proofs.YtalfpbalekbinaaGreat
open Go.RowKit Go.Sort

/-- Is v an end of an edge? -/
def Co.met (es : List (Int × Int)) (v : Nat) : Bool := es.any fun e => e.1 == (v : Int) || e.2 == (v : Int)

theorem Co.met_snoc (es : List (Int × Int)) (p : Int × Int) (v : Nat) : Co.met (es ++ [p]) v = (Co.met es v || (p.1 == (v : Int) || p.2 == (v : Int))) := by simp [Co.met]

theorem Co.degs_met {m : Nat} {es : List (Int × Int)} (hv : Si.Val m es) : ∀ k, k ≤ es.length → ∀ v, v < m → ∃ x : Int, (Si.degs m (es.take k))[v]? = some x ∧ 0 ≤ x ∧ (x = 0 ↔ Co.met (es.take k) v = false) := by
  intro k
  induction k with
  | zero => intro _ v hvm; exact ⟨0, by simp [Si.degs, hvm], Int.le_refl _, by simp [Co.met]⟩
  | succ k ih =>
    intro hk v hvm
    obtain ⟨q, hq⟩ : ∃ q, es[k]? = some q := ⟨_, List.getElem?_eq_getElem (by omega)⟩
    have hok := hv.each k q hq
    unfold Si.ok at hok
    obtain ⟨qu, qv⟩ := q
    dsimp only at hok
    obtain ⟨a, rfl⟩ : ∃ u : Nat, qu = (u : Int) := ⟨qu.toNat, by omega⟩
    obtain ⟨b, rfl⟩ : ∃ v : Nat, qv = (v : Int) := ⟨qv.toNat, by omega⟩
    obtain ⟨x, h1, x0, hx⟩ := ih (by omega) v hvm
    obtain ⟨xa, ha1, xa0, -⟩ := ih (by omega) a (by omega)
    obtain ⟨xb, hb1, xb0, -⟩ := ih (by omega) b (by omega)
    rw [Si.take_snoc hq, Si.degs_snoc, Co.met_snoc]
    have hne : a ≠ b := by omega
    rw [Si.bump_at ha1, Si.bump_at (x := xb) (by rw [List.getElem?_set, if_neg hne]; exact hb1)]
    have hl := Si.degs_length m (es.take k)
    rw [List.getElem?_set]
    by_cases hb : b = v
    · subst hb
      rw [if_pos rfl, if_pos (by simp; omega)]
      refine ⟨_, rfl, by omega, ?_⟩
      have : ¬ (xb + 1 = 0) := by omega
      simp [this]
    · rw [if_neg hb, List.getElem?_set]
      by_cases ha : a = v
      · subst ha
        rw [if_pos rfl, if_pos (by omega)]
        refine ⟨_, rfl, by omega, ?_⟩
        have : ¬ (xa + 1 = 0) := by omega
        simp [this]
      · rw [if_neg ha]
        refine ⟨x, h1, x0, ?_⟩
        rw [hx]
        have e1 : ((a : Int) == (v : Int)) = false := by simp; omega
        have e2 : ((b : Int) == (v : Int)) = false := by simp; omega
        dsimp only
        rw [e1, e2]
        simp

end Go.Proofs.YtalfpbalekbinaaGreat

/-
  Edges gone through one after another: the first, the last.
-/
namespace Go.Proofs.YtalfpbalekbinaaGreat
open Go.RowKit Go.Sort

theorem Si.UpTo.first {n : Int} {es : List (Int × Int)} {l p : Int × Int} (h : Si.UpTo n es 0 l) (ho : Si.ok n p) : Si.lt l p := by
  rcases h.2.2 with ⟨_, rfl⟩ | ⟨k', hk, _⟩
  · unfold Si.ok at ho
    unfold Si.lt
    dsimp only
    omega
  · omega

theorem Si.UpTo.last {n : Int} {es : List (Int × Int)} {k : Nat} {l : Int × Int} (h : Si.UpTo n es (k + 1) l) : es[k]? = some l := by
  rcases h.2.2 with ⟨h0, _⟩ | ⟨k', hk, hl⟩
  · omega
  · obtain rfl : k = k' := by omega
    exact hl

end Go.Proofs.YtalfpbalekbinaaGreat

/-
  The order of edges as the document asks it.
-/
namespace Go.Proofs.YtalfpbalekbinaaGreat
open Go.RowKit Go.Sort

set_option maxHeartbeats 1000000 in
theorem less_any (a b : Int × Int) (w : World) : Calls Tryz.prog 20 #[edgeVal a, edgeVal b] w fun e w' => e = .returned (.bool (decide (Si.lt a b))) ∧ ∃ q os', w' = grow (w.drewN q) os' := by
  unfold edgeVal
  by_cases h1 : a.1 < b.1
  · have hd : decide (Si.lt a b) = true := by simp [Si.lt, h1]
    rw [hd]
    go_enter Tryz.func20, Tryz.ntmps20
    go_wp2
    go_ret
    exact ⟨rfl, 0, _, by rw [alloc_eq_grow, alloc_eq_grow, grow_grow]; rfl⟩
  · by_cases h2 : a.1 = b.1
    · by_cases h3 : a.2 < b.2
      · have hd : decide (Si.lt a b) = true := by simp [Si.lt, h2, h3]
        rw [hd]
        go_enter Tryz.func20, Tryz.ntmps20
        go_wp2
        go_ret
        exact ⟨rfl, 0, _, by rw [alloc_eq_grow, alloc_eq_grow, grow_grow]; rfl⟩
      · have hd : decide (Si.lt a b) = false := by simp [Si.lt, h1, h3]
        rw [hd]
        go_enter Tryz.func20, Tryz.ntmps20
        go_wp2
        go_ret
        exact ⟨rfl, 0, _, by rw [alloc_eq_grow, alloc_eq_grow, grow_grow]; rfl⟩
    · have hd : decide (Si.lt a b) = false := by simp [Si.lt, h1, h2]
      rw [hd]
      go_enter Tryz.func20, Tryz.ntmps20
      go_wp2
      go_ret
      exact ⟨rfl, 0, _, by rw [alloc_eq_grow, alloc_eq_grow, grow_grow]; rfl⟩

theorem grown_of_grow {w w' : World} (h : ∃ (q : Nat) (os' : Array Obj), w' = grow (w.drewN q) os') : Below w.heap.size w w' := by
  obtain ⟨q, os', rfl⟩ := h
  exact grow_below w q os'

end Go.Proofs.YtalfpbalekbinaaGreat
