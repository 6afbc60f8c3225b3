/-
  Proved: for every list of keys and every number the law BucketStable answers true, and the list reads afterwards as before. No condition.
-/
import Derived.Test.YtofphdmebjcofaaBuStab
import Derived.Deep.QuietTactic
import Derived.BigQuiet
namespace Go.Proofs.Ytofphdmebjcofaa
open Go.ChangeShapes Go.WideShapes Go.ChangeAt Go.RowKit
namespace lawStable

theorem wrap_nat (j : Nat) (h : j ≤ 17592186043904) : IntKind.i64.wrap (j : Int) = (j : Int) := by
  rw [IntKind.wrap_i64]
  omega

set_option maxRecDepth 100000 in
set_option maxHeartbeats 32000000 in
theorem walk (ao : Option Addr) (n ca : Nat) (zs : List Int) (most : Int) (w : World) (hr : IsRow .i64 8 w ao n ca zs) (_ : (Lit.int .i64 most).wf = true) :
    Calls Try.prog 6 #[.slice ao n ca, .int .i64 most] w fun e w' => e = .returned (.bool true) ∧ Below w.heap.size w w' := by
  have hn := hr.few
  have hL := hr.lst
  clear hr
  obtain ⟨ks, hks⟩ : ∃ ks, zs.take n = ks := ⟨_, rfl⟩
  rw [hks] at hL
  have HLEN := Nu.hid hL.len
  have hb0 : Below w.heap.size w (w.alloc (.cells #[.slice ao n ca] 22)) := (Below.refl _ _).alloc (Nat.le_refl _) _
  have HK0 : Hid (Keyed (w.alloc (.cells #[.slice ao n ca] 22)) w.heap.size ao n ca ks (w.alloc (.cells #[.slice ao n ca] 22))) := ⟨Below.refl _ _, by simp, hL.later hb0⟩
  have HB0 := Nu.hid hb0
  clear hks hL hb0
  go_enter Try.func6, Try.ntmps6
  go_wp2_with (go_at_call 8; refine (wakes_any _).mono ?_; rintro e w1 ⟨rfl, hb1⟩; have HB1 := Nu.hid hb1; clear hb1; refine Hid.out ?_)
  refine Nu.hid ?_
  obtain ⟨w0, hw0⟩ : ∃ w0, w0 = w.alloc (.cells #[.slice ao n ca] 22) := ⟨_, rfl⟩
  rw [← hw0] at HK0 HB1 HB0
  have HKK : Hid (∀ W, Below w0.heap.size w0 W → Keyed w0 w.heap.size ao n ca ks W) := fun W hb => HK0.out.later hb
  have HEND : Hid (∀ W, Below w0.heap.size w0 W → Below w.heap.size w W) := fun W hb => HB0.out.trans (hb.mono HB0.out.size)
  obtain ⟨B, hB⟩ : ∃ B, B = w.heap.size := ⟨_, rfl⟩
  rw [← hB] at HKK ⊢
  clear hw0 hB HK0 HB0
  have c1 := (HKK.out _ HB1.out).box
  go_wp2
  go_loopw [5, 6] (fun v cv wr => ∃ i : Nat, i ≤ n ∧ cv = .int .i64 i ∧ OwnZ wr w0.heap.size v (Bu.places i) ∧ Below w0.heap.size w0 wr) (fun _ cv _ => n - (intOf cv).toNat)
  case atStart => exact ⟨0, Nat.zero_le _, rfl, OwnZ.nil _ _, HB1.out⟩
  case round =>
    obtain ⟨i, hin, rfl, hown, hb⟩ := hrel
    have HOWN := Nu.hid hown
    have HB := Nu.hid hb
    have hsz := hb.size
    have c2 := (HKK.out _ hb).box
    clear hown hb c1
    by_cases hlt : i < n
    · have i1 : (i : Int) < (n : Int) := by omega
      have HPL : Hid ((Bu.places i).length ≤ 17592186044000) := by show _ ≤ _; rw [Bu.places_length]; omega
      go_wp2_with (at_builtin; refine wpList_push rfl _ _ rfl _ w0.heap.size _ (Bu.places i) (i : Int) HOWN.out hsz HPL.out rfl rfl ?_; refine Hid.out ?_)
      refine Nu.hid ?_
      intro v' w5 ho5 hg5 hat5 hb5
      rw [← Bu.places_succ] at ho5
      have HO5 := Nu.hid ho5
      have HB5 := Nu.hid (HB.out.trans hb5)
      clear ho5 hg5 hat5 hb5 c2
      go_wp2
      go_roundw
      case rel => exact ⟨i + 1, by omega, by go_num, HO5.out, HB5.out⟩
      case measure => simp [intOf]; omega
    · have i1 : ¬ ((i : Int) < (n : Int)) := by omega
      obtain rfl : i = n := by omega
      obtain ⟨po, pc, hv, hP, -⟩ := HOWN.out.lst
      rw [Bu.places_length] at hv hP
      subst hv
      have HS1 := Nu.hid (sort1_any most hn (HKK.out _ HB.out) hP)
      have HRR : Hid (∀ W bo cb, Lst W bo i cb ks → Calls Try.prog 10 #[.slice bo i cb, .int .i64 most] W (RanksPost most ks W)) := fun W bo cb h => branks_any most bo cb i ks W hn h
      clear hP HOWN hin
      by_cases hf : Bu.fault most ks = 0
      · have HF := Nu.hid hf
        have HS2 : Hid (Calls Try.prog 12 #[.slice po i pc, .func (.func 16) #[] #[.pointer (some ⟨B, 0, none⟩)], .int .i64 most] wr fun e w' => ∃ (g : Nat) (S : List Int), e = .returned (.tuple #[.slice (some ⟨g, 0, none⟩) i i, .int .i64 0]) ∧ IntsBlk w' g S ∧ Bu.Sorted ks (Bu.places i) S ∧ Below wr.heap.size wr w') := HS1.out.mono (by
          rintro e w' ⟨⟨h1, _⟩ | ⟨_, g, S, h2, _, h3, h4⟩, hb⟩
          · exact absurd hf h1
          · rw [Bu.places_length] at h2
            exact ⟨g, S, h2, h3, h4, hb⟩)
        have HR2 : Hid (∀ W bo cb, Lst W bo i cb ks → Calls Try.prog 10 #[.slice bo i cb, .int .i64 most] W fun e w' => ∃ g : Nat, e = .returned (.tuple #[.slice (some ⟨g, 0, none⟩) i i, .int .i64 0]) ∧ IntsBlk w' g (Bu.ranks ks) ∧ Below W.heap.size W w') := fun W bo cb h => (HRR.out W bo cb h).mono (by
          rintro e w' ⟨⟨h1, _⟩ | ⟨_, g, h2, _, h3⟩, hb⟩
          · exact absurd hf h1
          · rw [h.len] at h2
            exact ⟨g, h2, h3, hb⟩)
        clear HS1 HRR hf
        go_wp2_with (go_at_call 12; refine HS2.out.mono ?_; rintro e w6 ⟨g1, S, rfl, hI1, hS1, hb6⟩; have HI6 := Nu.hid hI1; have HSORT := Nu.hid hS1; have HB6 := Nu.hid (HB.out.trans (hb6.mono HB.out.size)); clear hb6 hI1 hS1; refine Hid.out ?_)
        refine Nu.hid ?_
        have HK6 := Nu.hid (HKK.out _ HB6.out)
        have c6 := HK6.out.box
        have c6a := (HK6.out.later ((Below.refl _ _).alloc (Nat.le_refl _) (.cells #[] 3))).box
        clear HS2
        go_wp2_with (at_builtin; refine wpList_copy_lst rfl _ _ rfl w6 ao i ca _ rfl rfl HK6.out.lst hn ?_; refine Hid.out ?_)
        refine Nu.hid ?_
        intro gb c w7 hrow hgb hlt7 hc hb7
        have HR3 := Nu.hid (HR2.out w7 _ c (row_lst hrow HLEN.out))
        have HB7 := Nu.hid (HB6.out.trans (hb7.mono HB6.out.size))
        have HI7 := Nu.hid (HI6.out.later hb7)
        clear hrow hgb hb7 hlt7 hc c6 c6a c2 HK6 HI6
        go_wp2_with (go_at_call 10; refine HR3.out.mono ?_; rintro e w8 ⟨g2, rfl, hI2, hb8⟩; have HJ8 := Nu.hid hI2; have HI8 := Nu.hid (HI7.out.later hb8); have HB8 := Nu.hid (HB7.out.trans (hb8.mono HB7.out.size)); clear hb8 hI2; refine Hid.out ?_)
        refine Nu.hid ?_
        have HK8 := Nu.hid (HKK.out _ HB8.out)
        have c8 := HK8.out.box
        have j2 : ((i : Int) != (i : Int)) = false := by simp
        clear HR3 HR2 HI7 HB7
        go_wp2
        go_loopw [11] (fun cv wx => ∃ k : Nat, k ≤ i ∧ cv = .int .i64 k ∧ ∃ q, wx = w8.drewN q) (fun cv _ => i - (intOf cv).toNat)
        case atStart => exact ⟨0, Nat.zero_le _, rfl, 0, rfl⟩
        case round =>
          obtain ⟨k, hk, rfl, q, rfl⟩ := hrel
          by_cases hlk : k < i
          · have k0 : (0 : Int) ≤ (k : Int) := by omega
            have k1 : (k : Int) < (i : Int) := by omega
            have hsrt := HSORT.out
            rw [← HLEN.out] at hsrt
            obtain ⟨p, hp, e1, r1⟩ := Bu.sorted_place hsrt (k := k) (by rw [HLEN.out]; exact hlk)
            have hra := Bu.ranks_at hp
            rw [r1] at hra
            have d1 : w8.cell? ⟨g1, k, none⟩ = some (.int .i64 (p : Int)) := HI8.out.cell e1
            have d2 : w8.cell? ⟨g2, p, none⟩ = some (.int .i64 (k : Int)) := HJ8.out.cell hra
            have d3 : w8.cell? ⟨B, 0, none⟩ = some (.slice ao i ca) := c8
            obtain ⟨b, o, hao, d4'⟩ := HK8.out.lst.ints p _ (Bu.getD_at hp)
            have d4 : w8.cell? ⟨b, o + p, none⟩ = some (.int .i64 (ks.getD p 0)) := d4'
            have hpi : p < i := by rw [← HLEN.out]; exact hp
            have p0 : (0 : Int) ≤ (p : Int) := by omega
            have p1 : (p : Int) < (i : Int) := by omega
            have p2 : ¬ ((i : Int) ≤ (p : Int)) := by omega
            have j3 : ((k : Int) != (k : Int)) = false := by simp
            by_cases hz : k = 0
            · subst hz
              have d2z : w8.cell? ⟨g2, p, none⟩ = some (.int .i64 0) := d2
              have d1z : w8.cell? ⟨g1, 0, none⟩ = some (.int .i64 (p : Int)) := d1
              have kz : 0 < i := hlk
              have kz1 : (0 : Int) < (i : Int) := by omega
              generalize ks.getD p 0 = x1 at d4
              subst hao
              clear d1 d2 d4' hra e1 r1 hsrt j3 k0 k1 hlk hk
              rw [show ((0 : Nat) : Int) = 0 from rfl]
              go_wp2_with fail
              go_quiet (fail)
              go_wp2_with fail
              go_quiet (fail)
              go_wp2
              go_roundw
              case rel => exact ⟨1, by omega, by first | rfl | go_num, _, by first | rfl | trivial⟩
              case measure => simp [intOf]; omega
            · obtain ⟨j, hj⟩ : ∃ j, k = j + 1 := ⟨k - 1, by omega⟩
              have hkj0 : Hid ((k : Int) - 1 = (j : Int)) := by show _ = _; omega
              have j0 : (0 : Int) ≤ (j : Int) := by omega
              have j1 : (j : Int) < (i : Int) := by omega
              have hwj0 : Hid (IntKind.i64.wrap (j : Int) = (j : Int)) := wrap_nat j (by omega)
              have kp : (0 : Int) < (k : Int) := by omega
              have kp' : 0 < k := by omega
              obtain ⟨p', hp', e1', r1'⟩ := Bu.sorted_place hsrt (k := j) (by rw [HLEN.out]; omega)
              have hah := Bu.sorted_ahead hsrt (k := j) (k' := k) (by omega) (by rw [HLEN.out]; exact hlk) e1' e1
              have d5 : w8.cell? ⟨g1, j, none⟩ = some (.int .i64 (p' : Int)) := HI8.out.cell e1'
              obtain ⟨b', o', hao', d6'⟩ := HK8.out.lst.ints p' _ (Bu.getD_at hp')
              have d6 : w8.cell? ⟨b', o' + p', none⟩ = some (.int .i64 (ks.getD p' 0)) := d6'
              have hpi' : p' < i := by rw [← HLEN.out]; exact hp'
              have p0' : (0 : Int) ≤ (p' : Int) := by omega
              have p1' : (p' : Int) < (i : Int) := by omega
              subst hao
              cases hao'
              unfold Bu.Ahead at hah
              generalize ks.getD p 0 = x1 at d4 hah
              generalize ks.getD p' 0 = x0 at d6 hah
              have g1' : ¬ (x1 < x0) := by omega
              have g1h : Hid ((decide (x1 < x0)) = false) := by show _ = _; simp; omega
              by_cases heq : x0 = x1
              · have g2' : (x0 == x1) = true := by simp [heq]
                have g3' : ¬ ((p : Int) ≤ (p' : Int)) := by omega
                clear d4' d6' hra e1 r1 e1' r1' hsrt hah heq hj hz
                go_wp2_with fail
                go_quiet (fail)
                go_wp2_with fail
                have hkj := hkj0.out
                have hwj := hwj0.out
                clear g1'
                have g1'' : (decide (x1 < x0)) = false := g1h.out
                go_quiet (fail)
                clear hwj hkj
                go_wp2
                go_roundw
                case rel => exact ⟨k + 1, by omega, by go_num, _, by first | rfl | trivial⟩
                case measure => simp [intOf]; omega
              · have g2' : (x0 == x1) = false := by simp [heq]
                clear d4' d6' hra e1 r1 e1' r1' hsrt hah heq hj hz
                go_wp2_with fail
                go_quiet (fail)
                go_wp2_with fail
                have hkj := hkj0.out
                have hwj := hwj0.out
                clear g1'
                have g1'' : (decide (x1 < x0)) = false := g1h.out
                go_quiet (fail)
                clear hwj hkj
                go_wp2
                go_roundw
                case rel => exact ⟨k + 1, by omega, by go_num, _, by first | rfl | trivial⟩
                case measure => simp [intOf]; omega
          · have hd : ¬ ((k : Int) < (i : Int)) := by omega
            have HI9 : Hid (IntsBlk (w8.drewN q) g1 S) := HI8.out
            have HB9 : Hid (Below w0.heap.size w0 (w8.drewN q)) := below_drewN HB8.out q
            generalize w8.drewN q = w9 at HI9 HB9 ⊢
            have HS9 := Nu.hid (sort2_any most hn (HKK.out _ HB9.out) (HI9.out.lst (n := i) (ca := i) (by rw [HSORT.out.len, HLEN.out])) HSORT.out HF.out)
            have HSL : Hid (S.length = i) := by show _ = _; rw [HSORT.out.len, HLEN.out]
            clear c8 HK8 HB8 HI8 HJ8 hk j2
            go_wp2_with (go_at_call 12; refine HS9.out.mono ?_; rintro e w10 ⟨g4, rfl, hI4, hb10⟩; have HI10 := Nu.hid (HI9.out.later hb10); have HB10 := Nu.hid (HB9.out.trans (hb10.mono HB9.out.size)); have HSA := Nu.hid (same_true (hI4.lst (n := i) (ca := i) HSL.out) (HI10.out.lst (n := i) (ca := i) HSL.out) hn); clear hb10 hI4; refine Hid.out ?_)
            refine Nu.hid ?_
            clear HS9
            go_wp2_with (go_at_call 11; refine HSA.out.mono ?_; rintro e w11 ⟨rfl, hb11⟩; have HI11 := Nu.hid (HI10.out.later hb11); have HB11 := Nu.hid (HB10.out.trans (hb11.mono HB10.out.size)); clear hb11; refine Hid.out ?_)
            refine Nu.hid ?_
            clear HSA HI10 HB10 HI9 HB9
            by_cases hbig : (100000 : Int) < most
            · go_wp2
              go_ret
              exact ⟨rfl, HEND.out _ HB11.out⟩
            · obtain ⟨f0, f1, f2, -⟩ := fault_few HF.out
              have HIN := Nu.hid f2
              obtain ⟨m, hm⟩ : ∃ m : Nat, most = (m : Int) := ⟨most.toNat, by omega⟩
              subst hm
              have HK11 := Nu.hid (HKK.out _ HB11.out)
              have c11 := HK11.out.box
              have c11a := (HK11.out.later ((Below.refl _ _).alloc (Nat.le_refl _) (.cells #[] 3))).box
              clear f2
              go_wp2_with (at_builtin; refine wpList_copy_lst rfl _ _ rfl w11 ao i ca _ rfl rfl HK11.out.lst hn ?_; refine Hid.out ?_)
              refine Nu.hid ?_
              intro gb2 c2 w12 hrow2 hgb2 hlt12 hc2 hb12
              have HG := Nu.hid (group_yes m (some ⟨gb2, 0, none⟩) c2 i ks w12 hn (row_lst hrow2 HLEN.out) HF.out)
              have HB12 := Nu.hid (HB11.out.trans (hb12.mono HB11.out.size))
              have HI12 := Nu.hid (HI11.out.later hb12)
              clear hrow2 hgb2 hb12 hlt12 hc2 c11 c11a HK11
              go_wp2_with (go_at_call 14; refine HG.out.mono ?_; rintro e w13 ⟨g5, c5, vs, rfl, hrows, hb13⟩; have HROWS := Nu.hid hrows; have HI13 := Nu.hid (HI12.out.later hb13); have HB13 := Nu.hid (HB12.out.trans (hb13.mono HB12.out.size)); clear hrows hb13; refine Hid.out ?_)
              refine Nu.hid ?_
              clear HG HB12 HI12 HI11 HB11
              go_wp2
              go_loopw [16, 17] (fun v cv wx => ∃ j : Nat, j ≤ m + 1 ∧ cv = .int .i64 j ∧ OwnZ wx w13.heap.size v (Bu.flat ks j) ∧ Below w13.heap.size w13 wx) (fun _ cv _ => m + 1 - (intOf cv).toNat)
              case atStart => exact ⟨0, Nat.zero_le _, rfl, OwnZ.nil _ _, Below.refl _ _⟩
              case round =>
                obtain ⟨j, hj, rfl, hown, hb⟩ := hrel
                have HOWN := Nu.hid hown
                have HBX := Nu.hid hb
                have hszx := hb.size
                clear hown
                by_cases hlj : j < m + 1
                · have k0 : (0 : Int) ≤ (j : Int) := by omega
                  have k2 : (j : Int) < (m : Int) + 1 := by omega
                  obtain ⟨xo, xc, c0, hx⟩ := (HROWS.out.later hb).look (Bu.groups_at ks hlj)
                  have HX := Nu.hid hx
                  have HFS := Nu.hid (Bu.flat_succ ks j)
                  have hfl := Bu.flat_length HIN.out (j + 1)
                  rw [HFS.out, List.length_append] at hfl
                  have hle := Bu.less_le ks ((j + 1 : Nat) : Int)
                  rw [HLEN.out] at hle
                  have HLL : Hid ((Bu.flat ks j).length + (Bu.grp ks (j : Int)).length ≤ 17592186044000) := by show _ ≤ _; omega
                  generalize Bu.grp ks (j : Int) = gj at c0 HX HFS HLL
                  clear hx hb hfl hle
                  go_wp2_with (at_builtin; refine wpList_extend rfl _ _ rfl _ w13.heap.size _ (Bu.flat ks j) gj HOWN.out xo gj.length xc HX.out hszx HLL.out rfl rfl ?_; refine Hid.out ?_)
                  refine Nu.hid ?_
                  intro v' w14 ho14 hb14
                  rw [← HFS.out] at ho14
                  have HO14 := Nu.hid ho14
                  have HB14 := Nu.hid (HBX.out.trans hb14)
                  clear ho14 hb14
                  go_wp2
                  go_roundw
                  case rel => exact ⟨j + 1, by omega, by go_num, HO14.out, HB14.out⟩
                  case measure => simp [intOf]; omega
                · have hdj : ¬ ((j : Int) < (m : Int) + 1) := by omega
                  obtain rfl : j = m + 1 := by omega
                  have hfs := Bu.flat_sorted HIN.out (K := m + 1) (by omega)
                  rw [HLEN.out] at hfs
                  have e2 := hfs.unique HSORT.out
                  obtain ⟨fo, fc, hv, hF, -⟩ := HOWN.out.lst
                  rw [e2] at hF hv
                  rw [HSL.out] at hF hv
                  subst hv
                  have HSA := Nu.hid (same_true hF ((HI13.out.later hb).lst (n := i) (ca := i) HSL.out) hn)
                  have HBE := Nu.hid (HEND.out _ (HB13.out.trans (hb.mono HB13.out.size)))
                  clear hfs e2 hF hb HOWN HBX
                  go_wp2_with (go_at_call 11; refine HSA.out.mono ?_; rintro e w15 ⟨rfl, hb15⟩; have HB15 := Nu.hid hb15; clear hb15)
                  go_ret
                  exact ⟨rfl, HBE.out.trans (HB15.out.mono HBE.out.size)⟩
      · have HS2 : Hid (Calls Try.prog 12 #[.slice po i pc, .func (.func 16) #[] #[.pointer (some ⟨B, 0, none⟩)], .int .i64 most] wr fun e w' => e = .returned (.tuple #[.slice none 0 0, .int .i64 (Bu.fault most ks)]) ∧ Below wr.heap.size wr w') := HS1.out.mono (by
          rintro e w' ⟨⟨_, h1⟩ | ⟨h1, _⟩, hb⟩
          · exact ⟨h1, hb⟩
          · exact absurd h1 hf)
        have HR2 : Hid (∀ W bo cb, Lst W bo i cb ks → Calls Try.prog 10 #[.slice bo i cb, .int .i64 most] W fun e w' => e = .returned (.tuple #[.slice none 0 0, .int .i64 (Bu.fault most ks)]) ∧ Below W.heap.size W w') := fun W bo cb h => (HRR.out W bo cb h).mono (by
          rintro e w' ⟨⟨_, h1⟩ | ⟨h1, _⟩, hb⟩
          · exact ⟨h1, hb⟩
          · exact absurd h1 hf)
        obtain ⟨q, hq⟩ : ∃ q, Bu.fault most ks = q := ⟨_, rfl⟩
        rw [hq] at HS2 HR2 hf
        have j0 : (q != 0) = true := by simp [hf]
        have j2 : (q != q) = false := by simp
        clear hq HS1 HRR c2
        have c2 := (HKK.out _ HB.out).box
        go_wp2_with (go_at_call 12; refine HS2.out.mono ?_; rintro e w6 ⟨rfl, hb6⟩; have HB6 := Nu.hid (HB.out.trans (hb6.mono HB.out.size)); clear hb6; refine Hid.out ?_)
        refine Nu.hid ?_
        have HK6 := Nu.hid (HKK.out _ HB6.out)
        have c6 := HK6.out.box
        have c6a := (HK6.out.later ((Below.refl _ _).alloc (Nat.le_refl _) (.cells #[] 3))).box
        go_wp2_with (at_builtin; refine wpList_copy_lst rfl _ _ rfl w6 ao i ca _ rfl rfl HK6.out.lst hn ?_; refine Hid.out ?_)
        refine Nu.hid ?_
        intro gb c w7 hrow hgb hlt7 hc hb7
        have HR3 := Nu.hid (HR2.out w7 _ c (row_lst hrow HLEN.out))
        have HB7 := Nu.hid (HB6.out.trans (hb7.mono HB6.out.size))
        clear hrow hgb hb7 hlt7 hc c6 c6a
        go_wp2_with (go_at_call 10; refine HR3.out.mono ?_; rintro e w8 ⟨rfl, hb8⟩; have HB8 := Nu.hid (HB7.out.trans (hb8.mono HB7.out.size)); clear hb8)
        go_ret
        exact ⟨rfl, HEND.out _ HB8.out⟩

set_option maxRecDepth 100000 in
/-- What the walk gives, for every argument and every world. -/
theorem contract (H : Type) (enc : TypeId × Value → H) (W : World) (base : Nat) (args : Array Value) (ds gs : List (DataW H)) (before : List MemPlace)
    (hval : ∀ (j : Nat) t v, Try.f6.params[j]? = some t → args[j]? = some v → Value.okWide Try.prog W .any base t v)
    (hW : DataW.Whole enc Try.prog Try.f6.params.toList Rows.bucketStableSpec.vars false W args.toList ds gs before)
    (hsz : (DataW.weightsEach Try.prog (Try.f6.params.toList ++ (OpenSpec.ofChange Rows.bucketStableSpec).bare.plain.varTypes Try.prog) (ds ++ gs)).all (· ≤ reachBytes) = true)
    :
    Calls Try.prog 6 args W fun e W' => ∃ v, e = .returned v ∧ Rows.bucketStableSpec.post enc Try.prog Try.f6 false true false false W args v W' := by
  have hW' := hW
  obtain ⟨p, q, hA0, hV, rfl, hfz, hnd⟩ := hW
  have hA : DataW.TrodAll enc Try.prog W 0 (fun _ => true) true Try.f6.params.toList args.toList ds p := hA0
  rw [Try.params6] at hA hval hsz
  obtain ⟨v0, vs0, d0, ds0, p0, q0, hargs, rfl, rfl, h0, r0⟩ := trodAll_cons hA
  obtain ⟨v1, vs1, d1, ds1, p1, q1, rfl, rfl, rfl, h1, r1⟩ := trodAll_cons r0
  obtain ⟨rfl, rfl, rfl⟩ := trodAll_nil r1
  obtain rfl : args = #[v0, v1] := by cases args; simp_all
  obtain ⟨rfl, rfl⟩ := trodVars_none hV
  obtain ⟨a0, len0, cap0, rfl⟩ := okWide_slice Try.underlying22 (hval 0 22 v0 rfl rfl)
  have k0 := h0
  have lt0 : ∀ x ∈ p0, x.block < W.heap.size := by obtain ⟨m, hm⟩ := k0; exact DataW.trod_lt m _ _ _ hm
  obtain ⟨z0, w0⟩ := IsRow.of_trod (j := 0) Try.underlying22 Try.underlying3 cellsInt bytesInt h0 hsz rfl rfl
  obtain ⟨a1, rfl, rfl, rfl, w1⟩ := open_int Try.underlying3 (hval 1 3 v1 rfl rfl) h1
  clear hA0
  refine (walk a0 len0 cap0 z0 a1 W w0 w1).mono fun e W' ⟨he, bel⟩ => ?_
  subst he
  exact ⟨_, rfl, _, _, _, [], _, [], hW', trodAll_mk1 (shut_bool Try.underlying4 _), (trodAll_cons_mk (Below.trod laidOut (by kernel_rfl) (of_decide_eq_true (by kernel_rfl)) k0 bel lt0) (trodAll_cons_mk (shut_int Try.underlying3 w1) trodAll_mk0)), rfl, bel.frame _, fun h => by cases h⟩

theorem laid_met (os : Os) : laidMet Try.prog Rows.bucketStableRow.laid ((settled os).forCall (fun _ _ => 0) ⟨#[], #[.slice none 0 0, .int .i64 0], []⟩).memory :=
  laidMet_of_run' 100 (by kernel_rfl) (by kernel_rfl)
theorem reads (os : Os) {H : Type} (enc : TypeId × Value → H) : ∃ places, DataW.whole enc Try.prog ((settled os).forCall (fun _ _ => 0) ⟨#[], #[.slice none 0 0, .int .i64 0], []⟩).memory Try.f6.params.toList Rows.bucketStableSpec.vars false (#[.slice none 0 0, .int .i64 0] : Array Value).toList 8 = some ([.nil, .lit (.int .i64 0)], [], places) :=
  ⟨[], by kernel_rfl⟩

set_option maxRecDepth 100000 in
theorem lifted (os : Os) (started : os.Started) (H : Type) (enc : TypeId × Value → H) (F : Stop.Interp) :
    ReturnsInHanded {} Try.checked os 6 .any ((OpenSpec.ofChange Rows.bucketStableSpec).preRow enc Try.prog Try.f6 Rows.bucketStableRow.domain false Rows.bucketStableRow.laid) (((OpenSpec.ofChange Rows.bucketStableSpec).at F).post enc Try.prog Try.f6 false true false false) := by
  obtain ⟨places, hx⟩ := reads os enc
  refine returnsInHanded_of_row (C := Try.checked) (s := (OpenSpec.ofChange Rows.bucketStableSpec)) own started (by kernel_rfl) Try.func6
    (witness_row_at (enc := enc) (C := Try.checked) false (settled os) #[.slice none 0 0, .int .i64 0] rfl (by kernel_rfl) (by kernel_rfl) (by kernel_rfl)
      (OpenSpec.preRow_of_cond 8 hx (by kernel_rfl) (fun k hk => by cases hk) (by kernel_rfl) (laid_met os))) ?_
  intro W base args ds gs before hval hW _ _ hsz _ _ _
  exact contract H enc W base args ds gs before hval hW hsz 

theorem said : Rows.BucketStableSaid :=
  OpenClaim.holds_of_cond 6 Try.f6 rfl rfl rfl rfl rfl rfl rfl ⟨rfl, rfl, rfl, rfl, rfl⟩ rfl rfl rfl rfl rfl (by kernel_rfl) Try.func6 (by kernel_rfl)
    (of_decide_eq_true (by kernel_rfl)) (by unfold Func.isWrapper; first | (rw [if_pos (by decide +kernel)]; kernel_rfl) | (rw [if_neg (by decide +kernel)]; exact ⟨rfl, rfl⟩))
    (fun os started H enc _ F => by rw [OpenClaim.pre_eq_preRow]; exact lifted os started H enc F)

end lawStable

theorem bucketStable_holds : Rows.BucketStableSaid := lawStable.said

#print axioms bucketStable_holds
end Go.Proofs.Ytofphdmebjcofaa
