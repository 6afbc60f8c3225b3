/-
  The document's Join.
-/
import Derived.Test.YtoaaihbeehpgfaaCoRef
import Derived.Test.YtoaaihbeehpgfaaCoRNew
namespace Go.Proofs.Ytoaaihbeehpgfaa
open Go.RowKit Go.Sort

def RJoinPost (a0 : Option Addr) (n : Nat) (m : Nat → Nat) (x y : Int) (w : World) (e : Ending) (w' : World) : Prop :=
  ∃ ao c, e = .returned (.tuple #[.slice ao n c, .bool (Co.apart n m x y)]) ∧ (RefAt w' ao n (Co.joinI n m x y) ∧ (ao = a0 ∨ ∀ z, ao = some z → w.heap.size ≤ z.block)) ∧ Below w.heap.size w w'

set_option maxRecDepth 100000 in
set_option maxHeartbeats 8000000 in
theorem rjoin_any (ao : Option Addr) (n c : Nat) (m : Nat → Nat) (x y : Int) (w : World) (h : RefAt w ao n m) (hn : n ≤ 1048576) : Calls Try.prog 14 #[.slice ao n c, .int .i64 x, .int .i64 y] w (RJoinPost ao n m x y w) := by
  obtain ⟨i0, hi, hz0, hz1, hz2⟩ := info_parts Try.infoNum
  have HVT := Nu.hid (fun k z hz => rhas_yes ao n c (w.drewN k) z hz)
  have HVF := Nu.hid (fun k z hz => rhas_no ao n c (w.drewN k) z hz)
  have HEND : Hid (Co.apart n m x y = false → ∀ k, RJoinPost ao n m x y w (.returned (.tuple #[.slice ao n c, .bool false])) (w.drewN k)) := by
    intro hap k
    refine ⟨ao, c, by rw [hap], ⟨?_, .inl rfl⟩, below_drewN (Below.refl _ _) k⟩
    have hj : Co.joinI n m x y = m := by unfold Co.joinI; rw [hap]; rfl
    rw [hj]
    exact IntsAt.later h (below_drewN (Below.refl _ _) k)
  by_cases hx : Co.isIn n x
  · by_cases hy : Co.isIn n y
    · obtain ⟨a, rfl⟩ : ∃ u : Nat, x = (u : Int) := ⟨x.toNat, by unfold Co.isIn at hx; omega⟩
      obtain ⟨b, rfl⟩ : ∃ u : Nat, y = (u : Int) := ⟨y.toNat, by unfold Co.isIn at hy; omega⟩
      have hal := Co.isIn_lt hx
      have hbl := Co.isIn_lt hy
      rw [Int.toNat_natCast] at hal hbl
      obtain ⟨p, o, rfl, c0⟩ := h.cell hal
      obtain ⟨p', o', e', c1⟩ := h.cell hbl
      cases e'
      have a0 : (0 : Int) ≤ (a : Int) := by omega
      have a1 : (a : Int) < (n : Int) := by omega
      have b0 : (0 : Int) ≤ (b : Int) := by omega
      have b1 : (b : Int) < (n : Int) := by omega
      by_cases he : m a = m b
      · have hd : ((m a : Int) == (m b : Int)) = true := by simp [he]
        have hap : Co.apart n m a b = false := by
          unfold Co.apart
          refine decide_eq_false (fun h => h.2.2 ?_)
          simpa using he
        have HE := Nu.hid (HEND.out hap)
        clear h hap he HEND
        go_enter Try.func14, Try.ntmps14
        go_wp2_with fail
        go_quiet ((go_at_call 32; refine Calls.quiet_of_same (HVT.out _ _ ?_); assumption))
        go_wp2
        go_ret2
        exact HE.out nq
      · have hd : ((m a : Int) == (m b : Int)) = false := by simp; omega
        have hap : Co.apart n m a b = true := Co.apart_iff.2 ⟨hx, hy, by simpa using he⟩
        have hj : Co.joinI n m a b = Co.join m a b := by unfold Co.joinI; rw [hap]; simp
        have HJ := Nu.hid hj
        have HAP := Nu.hid hap
        have HR := Nu.hid h
        have HNE := Nu.hid he
        clear h hap he HEND hj
        go_enter Try.func14, Try.ntmps14
        go_wp2_with fail
        go_quiet ((go_at_call 32; refine Calls.quiet_of_same (HVT.out _ _ ?_); assumption))
        clear HVT HVF
        go_wp2_with fail
        go_quiet (fail)
        go_upto_if 44 with fail
        go_cut [8, 9] from 44 to 46 (fun u v wr => ∃ k : Nat, u = .int .i64 ((min (m a) (m b) : Nat) : Int) ∧ v = .int .i64 ((max (m a) (m b) : Nat) : Int) ∧ wr = w.drewN k)
        case first =>
          by_cases hlt : m b < m a
          · have hlti : (m b : Int) < (m a : Int) := by omega
            go_wp2
            go_meet
            exact ⟨_, by rw [Nat.min_eq_right (by omega)], by rw [Nat.max_eq_left (by omega)], by first | rfl | rw [World.drewN_drewN]⟩
          · have hlti : ¬ (m b : Int) < (m a : Int) := by omega
            go_wp2
            go_meet
            exact ⟨_, by rw [Nat.min_eq_left (by omega)], by rw [Nat.max_eq_right (by omega)], by first | rfl | rw [World.drewN_drewN]⟩
        case rest =>
          obtain ⟨k, rfl, rfl, hwc⟩ := hcut
          have hbc : Below w.heap.size w wc := by rw [hwc]; exact below_drewN (Below.refl _ _) k
          have hrc : RefAt wc (some ⟨p, o, none⟩) n m := IntsAt.later HR.out hbc
          have hsc : w.heap.size ≤ wc.heap.size := hbc.size
          have HBC := Nu.hid hbc
          have HRC := Nu.hid hrc
          have hown0 : (wc.alloc (.cells #[] 3)).ownsRow wc.heap.size 3 1 (.slice (some ⟨wc.heap.size, 0, none⟩) 0 0) 0 [] := World.ownsRow_made wc #[] 0 (Nat.le_refl _) (Nat.zero_le _) rfl
          have HOWN0 := Nu.hid hown0
          have hnews : ∀ j u, ((Co.ints n m).map (Value.int .i64))[j]? = some u → (wc.alloc (.cells #[] 3)).cell? ((⟨p, o, none⟩ : Addr).add j) = some u := fun j u hj => by
            rw [List.getElem?_map] at hj
            obtain ⟨z, hz, rfl⟩ := Option.map_eq_some_iff.1 hj
            obtain ⟨b', o', e', hc⟩ := hrc j z hz
            cases e'
            have e : ((⟨p, o, none⟩ : Addr).add j) = ⟨p, o + j, none⟩ := by
              by_cases h0 : j = 0 <;> simp [Addr.add, h0]
            rw [e]
            exact (World.grownBy_alloc wc _ none).cell hc (by simp)
          have HNEWS := Nu.hid hnews
          obtain ⟨lo, hlo⟩ : ∃ lo, min (m a) (m b) = lo := ⟨_, rfl⟩
          obtain ⟨hg, hhg⟩ : ∃ hg, max (m a) (m b) = hg := ⟨_, rfl⟩
          have HJF : Hid (∀ i, Co.join m a b i = if m i = hg then lo else m i) := by
            intro i
            rw [← hlo, ← hhg]
            rfl
          rw [hlo, hhg]
          have hil : ((Co.ints n m).map (Value.int .i64)).length = n * 1 := by simp [Co.ints_length]
          have HIL := Nu.hid hil
          clear hbc hrc hwc hown0 hnews hlo hhg hil c0 c1
          go_wp2_with (at_builtin; refine wpList_append_own _ rfl _ _ 30 rfl wc.heap.size 3 i0 (.int .i64 0) 1 8 Try.underlying30 hi hz0 hz1 hz2 rfl (by decide) _ 0 [] rfl HOWN0.out ⟨p, o, none⟩ n c _ rfl HIL.out HNEWS.out (ints_oneCell .i64 _) (by unfold maxLen; omega) (by omega) (by simp) ?_; refine Hid.out ?_)
          refine Nu.hid ?_
          intro v1 w1 hown1 hgrow1 _
          obtain ⟨n', hn'⟩ : ∃ n', n = n' + 1 := ⟨n - 1, by omega⟩
          obtain ⟨g1, cc1, hv1⟩ : ∃ g cap, v1 = .slice (some ⟨g, 0, none⟩) n cap := by
            rw [hn'] at hown1 ⊢
            exact own_succ hown1
          subst hv1
          have hin := ints_in_row hown1
          have hg1 := (World.ownsRow.lt hown1 g1 rfl).1
          have hb1 : Below wc.heap.size wc w1 := ((Below.refl _ _).alloc (Nat.le_refl _) _).grown hgrow1 (by simp) (fun q hq => by cases hq; exact Nat.le_refl _)
          have HIN := Nu.hid hin
          have HB1 := Nu.hid hb1
          clear hown1 hgrow1 hin hb1 HOWN0 HNEWS HIL hn'
          go_wp2
          go_loopw [11] (fun cv wr => ∃ (j : Nat) (F : Nat → Nat), j ≤ n ∧ cv = .int .i64 (j : Int) ∧ (∀ i, i < j → F i = Co.join m a b i) ∧ (∀ i, j ≤ i → F i = m i) ∧ IntsIn wr g1 (Co.ints n F) ∧ Below wc.heap.size wc wr) (fun cv _ => n - (intOf cv).toNat)
          case atStart => exact ⟨0, m, Nat.zero_le _, rfl, fun i hi => by omega, fun _ _ => rfl, HIN.out, HB1.out⟩
          case round =>
            obtain ⟨j, F, hj, rfl, hF1, hF2, hin, hb⟩ := hrel
            have HF1 := Nu.hid hF1
            have HF2 := Nu.hid hF2
            have HI := Nu.hid hin
            have HB := Nu.hid hb
            by_cases hlt : j < n
            · have hlti : (j : Int) < (n : Int) := by omega
              have hj0 : (0 : Int) ≤ (j : Int) := by omega
              have c0 := hin.cell (Co.ints_at (f := F) hlt)
              rw [hF2 j (Nat.le_refl _)] at c0
              have cf := hin.free
              have hjf := HJF.out j
              by_cases hm : m j = hg
              · have hd : ((m j : Int) == (hg : Int)) = true := by simp [hm]
                rw [if_pos hm] at hjf
                have n1 := hin.set (i := j) (by rw [Co.ints_length]; exact hlt) (lo : Int)
                rw [Co.ints_set lo hlt] at n1
                have HN1 := Nu.hid n1
                have HBN := Nu.hid (hb.setCell (p := ⟨g1, j, none⟩) hg1 (.int .i64 (lo : Int)))
                have HJJ := Nu.hid hjf
                clear hF1 hF2 hin hb n1 hjf hm
                go_wp2
                go_roundw
                case rel =>
                  refine ⟨j + 1, _, by omega, by go_num, fun i hi => ?_, fun i hi => ?_, HN1.out, HBN.out⟩
                  · by_cases e : i = j
                    · subst e; rw [Co.upd_same, HJJ.out]
                    · rw [Co.upd_other _ e]; exact HF1.out i (by omega)
                  · rw [Co.upd_other _ (by omega)]; exact HF2.out i (by omega)
                case measure => simp [intOf]; omega
              · have hd : ((m j : Int) == (hg : Int)) = false := by simp; omega
                rw [if_neg hm] at hjf
                have HJJ := Nu.hid hjf
                clear hF1 hF2 hin hb hjf hm
                go_wp2
                go_roundw
                case rel =>
                  refine ⟨j + 1, F, by omega, by go_num, fun i hi => ?_, fun i hi => HF2.out i (by omega), HI.out, HB.out⟩
                  by_cases e : i = j
                  · subst e; rw [HF2.out i (Nat.le_refl _), HJJ.out]
                  · exact HF1.out i (by omega)
                case measure => simp [intOf]; omega
            · have hd : ¬ ((j : Int) < (n : Int)) := by omega
              obtain rfl : j = n := by omega
              clear hF1 hF2 hin hb
              go_wp2
              go_ret2
              refine ⟨some ⟨g1, 0, none⟩, cc1, by rw [HAP.out]; rfl, ⟨?_, .inr (fun z hz => by cases hz; exact Nat.le_trans hsc hg1)⟩, HBC.out.trans (HB.out.mono hsc)⟩
              rw [HJ.out]
              unfold RefAt
              rw [← Co.ints_congr HF1.out]
              exact fun i z hz => ⟨g1, 0, rfl, by rw [Nat.zero_add]; exact HI.out.cell hz⟩
    · have hap : Co.apart n m x y = false := by
        unfold Co.apart
        exact decide_eq_false (fun h => hy h.2.1)
      have HE := Nu.hid (HEND.out hap)
      clear h hap HEND
      go_enter Try.func14, Try.ntmps14
      go_wp2_with fail
      go_quiet ((go_at_call 32; first | (refine Calls.quiet_of_same (HVT.out _ _ ?_); assumption) | (refine Calls.quiet_of_same (HVF.out _ _ ?_); assumption)))
      go_wp2
      go_ret2
      exact HE.out nq
  · have hap : Co.apart n m x y = false := by
      unfold Co.apart
      exact decide_eq_false (fun h => hx h.1)
    have HE := Nu.hid (HEND.out hap)
    clear h hap HEND
    go_enter Try.func14, Try.ntmps14
    go_wp2_with fail
    go_quiet ((go_at_call 32; refine Calls.quiet_of_same (HVF.out _ _ ?_); assumption))
    go_wp2
    go_ret2
    exact HE.out nq

end Go.Proofs.Ytoaaihbeehpgfaa
