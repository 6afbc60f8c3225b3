/-
  Proved: for every list of keys and every number the law BucketOwn answers true, and the list reads afterwards as before. No condition.
-/
import Derived.Test.YtofphdmebjcofaaBuOwn
import Derived.Deep.CutBlock
import Derived.Deep.CutRange
namespace Go.Proofs.Ytofphdmebjcofaa
open Go.ChangeShapes Go.WideShapes Go.ChangeAt Go.RowKit Go.Sort
namespace lawOwn

/-- Where lists are written over: j-th: all -300 - j, below k; the lengths stay. -/
def Over (ls ls' : List (List Int)) (k : Nat) : Prop := ls'.length = ls.length ∧ ∀ (j : Nat) (l : List Int), ls[j]? = some l → ∃ l', ls'[j]? = some l' ∧ l'.length = l.length ∧ (j < k → l' = List.replicate l.length (-300 - (j : Int)))

/-- What may be written behind the calls: what a, x and s have, and what is new. -/
def Free (A0 A1 A2 A3 A4 : Nat) (k : Nat) : Prop := (A0 ≤ k ∧ k < A1) ∨ (A2 ≤ k ∧ k < A3) ∨ A4 ≤ k

theorem keep_lst {A0 A1 A2 A3 A4 : Nat} {w V : World} {ao : Option Addr} {n ca : Nat} {l : List Int} (h : Lst w ao n ca l) (hw : Wrote (Free A0 A1 A2 A3 A4) w V) (hS : ∀ x, ao = some x → 0 < n → ¬ Free A0 A1 A2 A3 A4 x.block) : Lst V ao n ca l := by
  by_cases h0 : n = 0
  · refine ⟨h.len, fun j z hj => ?_, h.none⟩
    have := (List.getElem?_eq_some_iff.1 hj).1
    have := h.len
    omega
  · exact h.wrote hw (fun x hx => hS x hx (by omega))

theorem lst_block {w : World} {ao : Option Addr} {n ca : Nat} {l : List Int} (h : Lst w ao n ca l) : ∀ x, ao = some x → 0 < n → x.block < w.heap.size := fun x hx h0 => by
  obtain ⟨z, hz⟩ : ∃ z, l[0]? = some z := ⟨_, List.getElem?_eq_getElem (by rw [h.len]; exact h0)⟩
  obtain ⟨b, o, e, hc⟩ := h.ints 0 z hz
  rw [hx] at e
  cases e
  exact block_lt_of_cell hc

set_option maxRecDepth 100000 in
set_option maxHeartbeats 32000000 in
theorem walk (ao : Option Addr) (n ca : Nat) (zs : List Int) (most : Int) (w : World) (hr : IsRow .i64 8 w ao n ca zs) (_ : (Lit.int .i64 most).wf = true) :
    Calls Try.prog 7 #[.slice ao n ca, .int .i64 most] w fun e w' => e = .returned (.bool true) ∧ Below w.heap.size w w' := by
  have hn := hr.few
  have HL := Nu.hid hr.lst
  clear hr
  obtain ⟨ks, hks⟩ : ∃ ks, zs.take n = ks := ⟨_, rfl⟩
  rw [hks] at HL
  have HLEN := Nu.hid HL.out.len
  clear hks
  go_enter Try.func7, Try.ntmps7
  go_wp2_with (go_at_call 8; refine (wakes_any _).mono ?_; rintro e w1 ⟨rfl, hb1⟩; have HB1 := Nu.hid hb1; clear hb1; refine Hid.out ?_)
  refine Nu.hid ?_
  go_upto_if 36 with fail
  go_cut [1] from 36 to 36 (fun v wx => ∃ mm : Int, v = .int .i64 mm ∧ mm ≤ 1000 ∧ wx = w1)
  case first =>
    by_cases h1 : 1000 < most
    · go_wp2
      go_meet
      exact ⟨1000, rfl, by omega, rfl⟩
    · go_wp2
      go_meet
      exact ⟨most, rfl, by omega, rfl⟩
  case rest =>
    obtain ⟨mm, rfl, hmm, hwc⟩ := hcut
    have HB1' : Hid (Below w.heap.size w wc) := by rw [hwc]; exact HB1.out
    have HL1 := Nu.hid (HL.out.later HB1'.out)
    clear HL hwc HB1
    obtain ⟨q, hq⟩ : ∃ q, Bu.fault mm ks = q := ⟨_, rfl⟩
    obtain ⟨rs, hrs⟩ : ∃ rs, Bu.rs mm ks = rs := ⟨_, rfl⟩
    obtain ⟨gls, hgls⟩ : ∃ gls, Bu.gls mm ks = gls := ⟨_, rfl⟩
    have hrn := Bu.rs_length mm ks
    have hgn := Bu.gls_length hmm ks
    have HGA : Hid (∀ (k : Nat) (l : List Int), gls[k]? = some l → l = Bu.grp ks (k : Int)) := fun k l h => Bu.gls_at (most := mm) (by rw [hgls]; exact h)
    have HRR : Hid (∀ W bo cb, Lst W bo n cb ks → Calls Try.prog 9 #[.slice bo n cb, .int .i64 mm] W fun e w' => ∃ v, e = .returned (.tuple #[v, .int .i64 q]) ∧ OwnZ w' W.heap.size v rs ∧ Below W.heap.size W w') := fun W bo cb h => by
      rw [← hq, ← hrs]
      exact rranks_own mm bo cb n ks W hn h
    have HRK : Hid (∀ W bo cb, Lst W bo n cb ks → Calls Try.prog 10 #[.slice bo n cb, .int .i64 mm] W fun e w' => ∃ v, e = .returned (.tuple #[v, .int .i64 q]) ∧ OwnZ w' W.heap.size v rs ∧ Below W.heap.size W w') := fun W bo cb h => by
      rw [← hq, ← hrs]
      exact branks_own mm bo cb n ks W hn h
    have HGR : Hid (∀ W bo cb, Lst W bo n cb ks → Calls Try.prog 14 #[.slice bo n cb, .int .i64 mm] W fun e w' => ∃ v vs, e = .returned (.tuple #[v, .int .i64 q]) ∧ RowsZ w' W.heap.size v vs gls ∧ Below W.heap.size W w') := fun W bo cb h => by
      rw [← hq, ← hgls]
      exact group_own mm bo cb n ks W hn h
    have HSO : Hid (∀ W bo cb, Lst W bo n cb ks → Calls Try.prog 12 #[.slice bo n cb, .func (.func 18) #[] #[], .int .i64 mm] W fun e w' => ∃ v l, e = .returned (.tuple #[v, .int .i64 q]) ∧ OwnZ w' W.heap.size v l ∧ l.length ≤ n ∧ Below W.heap.size W w') := fun W bo cb h => by
      rw [← hq]
      exact sort_own mm bo cb n ks W hn h
    rw [hrs, HLEN.out] at hrn
    rw [hgls] at hgn
    obtain ⟨rn, hrne⟩ : ∃ rn, rs.length = rn := ⟨_, rfl⟩
    obtain ⟨N, hNe⟩ : ∃ N, gls.length = N := ⟨_, rfl⟩
    rw [hrne] at hrn
    rw [hNe] at hgn
    have HRN := Nu.hid hrne
    have HN := Nu.hid hNe
    clear hq hrs hgls hrne hNe
    -- full
    go_wp2_with (at_builtin; refine wpList_copy_lst rfl _ _ rfl wc ao n ca _ rfl rfl HL1.out hn ?_; refine Hid.out ?_)
    refine Nu.hid ?_
    intro gb c w2 hrow hgb hlt hc hb
    have HO2 : Hid (OwnZ (w2.alloc (.cells #[.int .i64 (-7), .int .i64 (-8)] 3)) wc.heap.size (.slice (some ⟨gb, 0, none⟩) n c) ks) := by
      refine OwnZ.later ?_ ((Below.refl _ _).alloc (Nat.le_refl _) _)
      unfold OwnZ
      rw [HLEN.out]
      exact hrow
    have HI2 : Hid (Lst (w2.alloc (.cells #[.int .i64 (-7), .int .i64 (-8)] 3)) (some ⟨w2.heap.size, 0, none⟩) 2 2 [-7, -8]) := IntsBlk.lst (heap_alloc_new w2 _) rfl
    have hs2 : wc.heap.size ≤ (w2.alloc (.cells #[.int .i64 (-7), .int .i64 (-8)] 3)).heap.size := by have := hb.size; simp; omega
    have HLL2 : Hid (ks.length + ([-7, -8] : List Int).length ≤ 17592186044000) := by show _ ≤ _; rw [HLEN.out]; simp; omega
    have HBW2 : Hid (Below wc.heap.size wc (w2.alloc (.cells #[.int .i64 (-7), .int .i64 (-8)] 3))) := hb.alloc hb.size _
    clear hrow hgb hb hlt hc
    go_wp2_with (at_builtin; refine wpList_extend rfl _ _ rfl _ wc.heap.size _ ks [-7, -8] HO2.out (some ⟨w2.heap.size, 0, none⟩) 2 2 HI2.out hs2 HLL2.out rfl rfl ?_; refine Hid.out ?_)
    refine Nu.hid ?_
    intro fv w3 ho3 hb3
    obtain ⟨fb, fc, hfv, hfc, hfB, hfl, hfI⟩ := own_full ho3 (by simp)
    have hFL : (ks ++ [-7, -8]).length = n + 2 := by rw [List.length_append, HLEN.out]; rfl
    rw [hFL] at hfv hfc
    subst hfv
    have HB3 : Hid (Below wc.heap.size wc w3) := HBW2.out.trans hb3
    have HFI3 := Nu.hid hfI
    have HL3 := Nu.hid (HL1.out.later HB3.out)
    have hB0 := HB1'.out.size
    have HR3 := Nu.hid (HRR.out w3 ao ca HL3.out)
    have n0 : (0 : Int) ≤ (n : Int) := by omega
    have nf : (n : Int) ≤ (fc : Int) := by omega
    clear ho3 hb3 hfI hFL HO2 HI2 hs2 HLL2 HBW2 HL1
    go_wp2_with (go_at_call 9; refine HR3.out.mono ?_; rintro e w4 ⟨wv, rfl, hwv, hb4⟩; obtain ⟨wo, wn, hwe, hwL, hwB⟩ := hwv.lst; rw [HRN.out] at hwe hwL; subst hwe; have HWL4 := Nu.hid hwL; have HFI4 := Nu.hid (HFI3.out.later hb4); have HL4 := Nu.hid (HL3.out.later hb4); have HB4 := Nu.hid (HB3.out.trans (hb4.mono HB3.out.size)); have hsz4 := hb4.size; clear hwv hwL hwB hb4; refine Hid.out ?_)
    refine Nu.hid ?_
    have HK4 := Nu.hid (HRK.out w4 _ fc (front_lst HFI4.out HLEN.out))
    clear HR3 HFI3 HL3 HB3
    go_wp2_with (go_at_call 10; refine HK4.out.mono ?_; rintro e w5 ⟨av, rfl, hav, hb5⟩; obtain ⟨avo, avc, hae, haL, haB⟩ := hav.lst; rw [HRN.out] at hae haL; subst hae; have HAO5 := Nu.hid hav; have HAB := Nu.hid haB; have HAL5 := Nu.hid haL; have HWL5 := Nu.hid (HWL4.out.later hb5); have HFI5 := Nu.hid (HFI4.out.later hb5); have HL5 := Nu.hid (HL4.out.later hb5); have HB5 := Nu.hid (HB4.out.trans (hb5.mono HB4.out.size)); have hsz5 := hb5.size; clear hav haL haB hb5; refine Hid.out ?_)
    refine Nu.hid ?_
    have HK5 := Nu.hid (HRK.out w5 _ fc (front_lst HFI5.out HLEN.out))
    clear HK4
    go_wp2_with (go_at_call 10; refine HK5.out.mono ?_; rintro e w6 ⟨bv, rfl, hbv, hb6⟩; obtain ⟨bvo, bvc, hbe, hbL, hbB⟩ := hbv.lst; rw [HRN.out] at hbe hbL; subst hbe; have HBB := Nu.hid hbB; have HBL6 := Nu.hid hbL; have HAO6 := Nu.hid (HAO5.out.later hb6); have HAL6 := Nu.hid (HAL5.out.later hb6); have HWL6 := Nu.hid (HWL5.out.later hb6); have HFI6 := Nu.hid (HFI5.out.later hb6); have HL6 := Nu.hid (HL5.out.later hb6); have HB6 := Nu.hid (HB5.out.trans (hb6.mono HB5.out.size)); have hsz6 := hb6.size; clear hbv hbL hbB hb6; refine Hid.out ?_)
    refine Nu.hid ?_
    have HK6 := Nu.hid (HGR.out w6 _ fc (front_lst HFI6.out HLEN.out))
    clear HK5 HAO5 HAL5 HWL5 HFI5 HL5 HB5
    go_wp2_with (go_at_call 14; refine HK6.out.mono ?_; rintro e w7 ⟨xv, xs, rfl, hx, hb7⟩; obtain ⟨xo, xc, hxe⟩ := rows_shape hx; rw [HN.out] at hxe; subst hxe; have HX7 := Nu.hid hx; have HBL7 := Nu.hid (HBL6.out.later hb7); have HAO7 := Nu.hid (HAO6.out.later hb7); have HAL7 := Nu.hid (HAL6.out.later hb7); have HWL7 := Nu.hid (HWL6.out.later hb7); have HFI7 := Nu.hid (HFI6.out.later hb7); have HL7 := Nu.hid (HL6.out.later hb7); have HB7 := Nu.hid (HB6.out.trans (hb7.mono HB6.out.size)); have hsz7 := hb7.size; clear hx hb7; refine Hid.out ?_)
    refine Nu.hid ?_
    have HK7 := Nu.hid (HGR.out w7 _ fc (front_lst HFI7.out HLEN.out))
    clear HK6 HAO6 HAL6 HWL6 HFI6 HL6 HB6 HBL6
    go_wp2_with (go_at_call 14; refine HK7.out.mono ?_; rintro e w8 ⟨yv, ys, rfl, hy, hb8⟩; obtain ⟨yo, yc, hye⟩ := rows_shape hy; rw [HN.out] at hye; subst hye; have HY8 := Nu.hid hy; have HX8 := Nu.hid (HX7.out.later hb8); have HBL8 := Nu.hid (HBL7.out.later hb8); have HAO8 := Nu.hid (HAO7.out.later hb8); have HAL8 := Nu.hid (HAL7.out.later hb8); have HWL8 := Nu.hid (HWL7.out.later hb8); have HFI8 := Nu.hid (HFI7.out.later hb8); have HL8 := Nu.hid (HL7.out.later hb8); have HB8 := Nu.hid (HB7.out.trans (hb8.mono HB7.out.size)); have hsz8 := hb8.size; clear hy hb8; refine Hid.out ?_)
    refine Nu.hid ?_
    have HK8 := Nu.hid (HSO.out w8 _ fc (front_lst HFI8.out HLEN.out))
    clear HK7 HAO7 HAL7 HWL7 HFI7 HL7 HB7 HBL7
    go_wp2_with (go_at_call 12; refine HK8.out.mono ?_; rintro e w9 ⟨sv, sl, rfl, hs, hsl, hb9⟩; have HSV9 := Nu.hid hs; have HY9 := Nu.hid (HY8.out.later hb9); have HX9 := Nu.hid (HX8.out.later hb9); have HBL9 := Nu.hid (HBL8.out.later hb9); have HAO9 := Nu.hid (HAO8.out.later hb9); have HAL9 := Nu.hid (HAL8.out.later hb9); have HWL9 := Nu.hid (HWL8.out.later hb9); have HFI9 := Nu.hid (HFI8.out.later hb9); have HL9 := Nu.hid (HL8.out.later hb9); have HB9 := Nu.hid (HB8.out.trans (hb9.mono HB8.out.size)); have hsz9 := hb9.size; clear hs hb9; refine Hid.out ?_)
    refine Nu.hid ?_
    clear HK8 HAO8 HAL8 HWL8 HFI8 HL8 HB8 HBL8
    have HKB : Hid (∀ x, ao = some x → 0 < n → x.block < w4.heap.size) := lst_block HL4.out
    have HWB : Hid (∀ x, wo = some x → 0 < rn → x.block < w4.heap.size) := lst_block HWL4.out
    have HXB := Nu.hid (rows_blocks HX7.out)
    have HYB := Nu.hid (rows_blocks HY8.out)
    have hfb4 := HFI4.out.lt
    have hrn2 : rn ≤ 17592186043904 := by omega
    have hsl2 : sl.length ≤ 17592186043904 := by omega
    have HSA9 := Nu.hid (same_true HAL9.out HWL9.out hrn2)
    have j2 : (q != q) = false := by simp
    clear HX7 HX8 HY8 HFI4 HWL4 HL4 HB4 HAL9 hsl
    go_wp2_with (go_at_call 11; refine HSA9.out.mono ?_; rintro e w10 ⟨rfl, hb10⟩; have HB10 := Nu.hid hb10; have HSA10 := Nu.hid (same_true (HBL9.out.later hb10) (HWL9.out.later hb10) hrn2); clear hb10; refine Hid.out ?_)
    refine Nu.hid ?_
    clear HSA9
    go_wp2_with (go_at_call 11; refine HSA10.out.mono ?_; rintro e w11 ⟨rfl, hb11⟩; have HB11 := Nu.hid (HB10.out.trans (hb11.mono HB10.out.size)); clear hb11; refine Hid.out ?_)
    refine Nu.hid ?_
    have HFI11 := Nu.hid (HFI9.out.later HB11.out)
    have c7 : w11.cell? ⟨fb, n, none⟩ = some (.int .i64 (-7)) := HFI11.out.cell (by rw [List.getElem?_append_right (by rw [HLEN.out]; omega), HLEN.out, Nat.sub_self]; rfl)
    have c8 : w11.cell? ⟨fb, n + 1, none⟩ = some (.int .i64 (-8)) := HFI11.out.cell (by rw [List.getElem?_append_right (by rw [HLEN.out]; omega), HLEN.out, Nat.add_sub_cancel_left]; rfl)
    have HSA11 := Nu.hid (same_true (front_lst (c := fc) HFI11.out HLEN.out) (HL9.out.later HB11.out) hn)
    have n1 : (n : Int) < (n : Int) + 2 := by omega
    have n2 : (0 : Int) ≤ (n : Int) + 1 := by omega
    have n3 : (n : Int) + 1 < (n : Int) + 2 := by omega
    clear HSA10
    go_wp2_with (go_at_call 11; refine HSA11.out.mono ?_; rintro e w12 ⟨rfl, hb12⟩; have HB12 := Nu.hid (HB11.out.trans (hb12.mono HB11.out.size)); clear hb12; refine Hid.out ?_)
    refine Nu.hid ?_
    -- all that is there, at w12
    have HL12 := Nu.hid (HL9.out.later HB12.out)
    have HFI12 := Nu.hid (HFI9.out.later HB12.out)
    have HWL12 := Nu.hid (HWL9.out.later HB12.out)
    have HBL12 := Nu.hid (HBL9.out.later HB12.out)
    have HY12 := Nu.hid (HY9.out.later HB12.out)
    have HX12 := Nu.hid (HX9.out.later HB12.out)
    have HAO12 := Nu.hid (HAO9.out.later HB12.out)
    have HSV12 := Nu.hid (HSV9.out.later HB12.out)
    have hsz12 := HB12.out.size
    have HBE : Hid (Below w.heap.size w w12) := (HB1'.out.trans (HB9.out.mono hB0)).trans (HB12.out.mono (by omega))
    obtain ⟨A0, hA0⟩ : ∃ A0, A0 = w4.heap.size := ⟨_, rfl⟩
    obtain ⟨A1, hA1⟩ : ∃ A1, A1 = w5.heap.size := ⟨_, rfl⟩
    obtain ⟨A2, hA2⟩ : ∃ A2, A2 = w6.heap.size := ⟨_, rfl⟩
    obtain ⟨A3, hA3⟩ : ∃ A3, A3 = w7.heap.size := ⟨_, rfl⟩
    obtain ⟨A4, hA4⟩ : ∃ A4, A4 = w8.heap.size := ⟨_, rfl⟩
    have hwA : w.heap.size ≤ A0 := by omega
    rw [← hA0] at HKB HWB HAB hfb4 HAO12
    rw [← hA1] at HAB HBB
    rw [← hA2] at HBB HXB HX12
    rw [← hA3] at HXB HYB HY12
    rw [← hA4] at HYB HSV12
    have a01 : A0 ≤ A1 := by omega
    have a12 : A1 ≤ A2 := by omega
    have a23 : A2 ≤ A3 := by omega
    have a34 : A3 ≤ A4 := by omega
    have a4w : A4 ≤ w12.heap.size := by omega
    have hfw : w.heap.size ≤ fb := by omega
    have HMA := Nu.hid (mark_any _ _ (-100) A0 w12 HAO12.out (by omega) (by rw [HRN.out]; exact hrn2) (by decide) (by decide))
    clear HL9 HFI9 HWL9 HBL9 HY9 HX9 HAO9 HSV9 HB9 HB10 HB11 HB12 HSA11 HFI11 c7 c8 n1 n2 n3 hA0 hA1 hA2 hA3 hA4 hsz4 hsz5 hsz6 hsz7 hsz8 hsz9 hsz12 hfl hfB hB0
    go_wp2_with (go_at_call 19; refine HMA.out.mono ?_; rintro e w13 ⟨rfl, hw13⟩; have HW13 := Nu.hid hw13; clear hw13; refine Hid.out ?_)
    refine Nu.hid ?_
    have hav : ∀ b, (Value.slice avo rn avc).ownBlock = some b → A0 ≤ b ∧ b < A1 := fun b hb => by
      rcases avo with _ | x
      · cases hb
      · obtain rfl := Option.some.inj hb
        exact HAB.out x rfl
    have HSV13 : Hid (OwnZ w13 A4 sv sl) := HSV12.out.same fun b hb hlt => HW13.out.block b hlt (fun e => by
      have h1 := hav b e
      have h2 := (World.ownsRow.lt HSV12.out b hb).1
      omega)
    have HWF13 : Hid (Wrote (Free A0 A1 A2 A3 A4) w12 w13) := HW13.out.mono fun b _ hb => .inl (hav b hb)
    have hsz13 := HW13.out.size
    have HMS := Nu.hid (mark_any _ _ (-200) A4 w13 HSV13.out (by omega) hsl2 (by decide) (by decide))
    clear HMA HAO12 HSV12
    go_wp2_with (go_at_call 19; refine HMS.out.mono ?_; rintro e w14 ⟨rfl, hw14⟩; have HW14 := Nu.hid hw14; clear hw14; refine Hid.out ?_)
    refine Nu.hid ?_
    have hsvb : ∀ b, sv.ownBlock = some b → A4 ≤ b := fun b hb => (World.ownsRow.lt HSV13.out b hb).1
    have HWF14 : Hid (Wrote (Free A0 A1 A2 A3 A4) w12 w14) := HWF13.out.trans (HW14.out.mono fun b _ hb => .inr (.inr (hsvb b hb)))
    have HX14 : Hid (RowsZ w14 A2 (.slice xo N xc) xs gls) := (HX12.out.kept fun b hb hlt => HW13.out.block b hlt (fun e => by
      have h1 := hav b e
      have h2 := HXB.out b hb
      omega)).kept fun b hb hlt => HW14.out.block b hlt (fun e => by
      have h1 := hsvb b e
      have h2 := HXB.out b hb
      omega)
    have HXF : Hid (∀ b, inV xs b → Free A0 A1 A2 A3 A4 b) := fun b hb => .inr (.inl (HXB.out b (.inr hb)))
    clear HMS HSV13 HWF13 HW13 HW14 HX12 hav hsvb hsz13
    go_wp2
    -- x is written over
    go_loopw [134] (fun cv wr => ∃ (k : Nat) (ls' : List (List Int)), k ≤ N ∧ cv = .int .i64 (k : Int) ∧ RowsZ wr A2 (.slice xo N xc) xs ls' ∧ Over gls ls' k ∧ Wrote (Free A0 A1 A2 A3 A4) w12 wr) (fun cv _ => N - (intOf cv).toNat)
    case atStart => exact ⟨0, gls, Nat.zero_le _, rfl, HX14.out, ⟨rfl, fun j l hl => ⟨l, hl, rfl, fun h => by omega⟩⟩, HWF14.out⟩
    case round =>
      obtain ⟨k, ls', hk, rfl, hrows, hov, hwr⟩ := hrel
      obtain ⟨w0, rfl⟩ : ∃ w0, w0 = wr := ⟨wr, rfl⟩
      have HOV := Nu.hid hov
      have HROWS := Nu.hid hrows
      have HWR := Nu.hid hwr
      by_cases hlt : k < N
      · have hlti : (k : Int) < (N : Int) := by omega
        have hk0 : (0 : Int) ≤ (k : Int) := by omega
        obtain ⟨l, hl⟩ : ∃ l, gls[k]? = some l := ⟨_, List.getElem?_eq_getElem (by rw [HN.out]; exact hlt)⟩
        obtain ⟨l', hl', hll', -⟩ := hov.2 k l hl
        obtain ⟨x, hx⟩ := hrows.at' hl'
        obtain ⟨g, gc, hvg, cx⟩ := row_at' hrows hx
        obtain ⟨xxo, xxc, hxe, -, -⟩ := (hrows.row k x l' hx hl').form
        have hlen : ls'.length = N := by rw [hov.1, HN.out]
        rw [hlen] at hvg
        have hvo : xo = some ⟨g, 0, none⟩ := by cases hvg; rfl
        obtain ⟨p, hp⟩ : ∃ p, l'.length = p := ⟨_, rfl⟩
        rw [hp] at hxe
        have hpl : p ≤ 17592186043904 := by
          have h1 := HGA.out k l hl
          have h2 := Bu.grp_length ks (k : Int)
          have h3 : ks.count (k : Int) ≤ ks.length := List.count_le_length
          rw [HLEN.out] at h3
          rw [← h1] at h2
          omega
        subst hxe
        have HX := Nu.hid hx
        have HLk := Nu.hid hl
        have HL' := Nu.hid hl'
        have HP := Nu.hid hp
        have HPL : Hid (l.length = p) := hll'.symm.trans hp
        have HLEN' := Nu.hid hlen
        clear hrows hov hwr hx hl hl' hll' hp hlen hvg
        subst hvo
        go_wp2
        go_loopw [142] (fun cv wx => ∃ (i : Nat) (q' : List Int), i ≤ p ∧ cv = .int .i64 (i : Int) ∧ q'.length = p ∧ (∀ t, t < i → q'[t]? = some (-300 - (k : Int))) ∧ RowsZ wx A2 (.slice (some ⟨g, 0, none⟩) N xc) xs (ls'.set k q') ∧ Wrote (Free A0 A1 A2 A3 A4) w12 wx) (fun cv _ => p - (intOf cv).toNat)
        case atStart =>
          refine ⟨0, l', Nat.zero_le _, rfl, HP.out, fun t ht => by omega, ?_, HWR.out⟩
          have e : ls'.set k l' = ls' := by
            refine List.ext_getElem? fun j => ?_
            rw [List.getElem?_set]
            by_cases e : k = j
            · subst e
              rw [if_pos rfl, if_pos (by rw [HLEN'.out]; exact hlt), HL'.out]
            · rw [if_neg e]
          rw [e]
          exact HROWS.out
        case round =>
          obtain ⟨i, q', hip, rfl, hq', hqt, hrx, hwx⟩ := hrel
          have HRX := Nu.hid hrx
          have HWX := Nu.hid hwx
          have HQ := Nu.hid hq'
          have HQT := Nu.hid hqt
          by_cases hil : i < p
          · have hili : (i : Int) < (p : Int) := by omega
            have hi0 : (0 : Int) ≤ (i : Int) := by omega
            obtain ⟨gx, hgx⟩ : ∃ gx, xxo = some ⟨gx, 0, none⟩ := by
              have := hrx.row k _ q' HX.out (by rw [List.getElem?_set, if_pos rfl, if_pos (by rw [HLEN'.out]; exact hlt)])
              rcases this.2 with ⟨h', h0⟩ | ⟨g', c', cur, e', _⟩
              · omega
              · cases e'; exact ⟨g', rfl⟩
            subst hgx
            obtain ⟨g7, c7, e7, cx2⟩ := row_at' hrx HX.out
            have e8 : g7 = g := by
              have := congrArg Value.ownBlock e7
              exact (Option.some.inj this).symm
            rw [e8] at cx2
            clear e7 e8
            obtain ⟨⟨y, cy⟩, fy, hrw, -⟩ := hrx.write HX.out (by rw [List.getElem?_set, if_pos rfl, if_pos (by rw [HLEN'.out]; exact hlt)]) hq' hil (-300 - (k : Int))
            have HRW := Nu.hid hrw
            have HWW := Nu.hid (hwx.setCell (b := gx) (i := i) (HXF.out gx ⟨k, _, HX.out, rfl⟩) (.int .i64 (-300 - (k : Int))))
            clear hq' hqt hrx hwx hrw
            go_wp2
            go_roundw
            case rel =>
              refine ⟨i + 1, q'.set i (-300 - (k : Int)), by omega, by go_num, by rw [List.length_set]; exact HQ.out, fun t ht => ?_, ?_, HWW.out⟩
              · rw [List.getElem?_set]
                by_cases e : i = t
                · rw [if_pos e, if_pos (by rw [HQ.out]; exact hil)]
                · rw [if_neg e]; exact HQT.out t (by omega)
              · have := HRW.out
                rw [List.set_set] at this
                exact this
            case measure => simp [intOf]; omega
          · have hd2 : ¬ ((i : Int) < (p : Int)) := by omega
            have hqr : q' = List.replicate l.length (-300 - (k : Int)) := by
              refine List.ext_getElem? fun t => ?_
              rw [List.getElem?_replicate, HPL.out]
              by_cases ht : t < p
              · rw [if_pos ht]; exact hqt t (by omega)
              · rw [if_neg ht, List.getElem?_eq_none (by omega)]
            have HQR := Nu.hid hqr
            clear hq' hqt hrx hwx hqr
            go_wp2
            go_roundw
            case rel =>
              refine ⟨k + 1, _, by omega, by go_num, HRX.out, ⟨by rw [List.length_set]; exact HOV.out.1, fun j b hb => ?_⟩, HWX.out⟩
              rw [List.getElem?_set]
              by_cases e : k = j
              · subst e
                rw [HLk.out] at hb
                cases hb
                exact ⟨q', by rw [if_pos rfl, if_pos (by rw [HLEN'.out]; exact hlt)], by rw [HQ.out, HPL.out], fun _ => HQR.out⟩
              · rw [if_neg e]
                obtain ⟨b', h1, h2, h3⟩ := HOV.out.2 j b hb
                exact ⟨b', h1, h2, fun hj => h3 (by omega)⟩
            case measure => simp [intOf]; omega
      · have hd : ¬ ((k : Int) < (N : Int)) := by omega
        obtain rfl : k = N := by omega
        -- the lists of x now
        have HN' : Hid (ls'.length = k) := hov.1.trans HN.out
        have hllN : ∀ (j : Nat) (l : List Int), ls'[j]? = some l → l.length ≤ 17592186043904 ∧ l = List.replicate l.length (-300 - (j : Int)) := fun j l' hl' => by
          have hjl := (List.getElem?_eq_some_iff.1 hl').1
          obtain ⟨l, hl⟩ : ∃ l, gls[j]? = some l := ⟨_, List.getElem?_eq_getElem (by rw [← hov.1]; exact hjl)⟩
          obtain ⟨l2, h1, h2, h3⟩ := hov.2 j l hl
          rw [hl'] at h1
          cases h1
          refine ⟨?_, ?_⟩
          · have h1 := HGA.out j l hl
            have h4 := Bu.grp_length ks (j : Int)
            have h5 : ks.count (j : Int) ≤ ks.length := List.count_le_length
            rw [HLEN.out] at h5
            rw [← h1] at h4
            omega
          · rw [h2]
            exact h3 (by rw [HN'.out] at hjl; exact hjl)
        have HLN := Nu.hid hllN
        clear hrows hov hwr hllN HOV HX14 HWF14
        go_wp2
        -- x is grown
        go_loopw [157] (fun cv wr => ∃ j : Nat, j ≤ k ∧ cv = .int .i64 (j : Int) ∧ RowsZ wr A2 (.slice xo k xc) xs ls' ∧ Wrote (Free A0 A1 A2 A3 A4) w12 wr) (fun cv _ => k - (intOf cv).toNat)
        case atStart => exact ⟨0, Nat.zero_le _, rfl, HROWS.out, HWR.out⟩
        case round =>
          obtain ⟨j, hj, rfl, hrows, hwr⟩ := hrel
          obtain ⟨w1, rfl⟩ : ∃ w1, w1 = wr := ⟨wr, rfl⟩
          have HRX := Nu.hid hrows
          have HWX := Nu.hid hwr
          by_cases hjk : j < k
          · have hjki : (j : Int) < (k : Int) := by omega
            have hj0 : (0 : Int) ≤ (j : Int) := by omega
            obtain ⟨l, hl⟩ : ∃ l, ls'[j]? = some l := ⟨_, List.getElem?_eq_getElem (by rw [HN'.out]; exact hjk)⟩
            obtain ⟨x, hx⟩ := hrows.at' hl
            obtain ⟨g, gc', hvg, cx⟩ := row_at' hrows hx
            rw [HN'.out] at hvg
            have hvo : xo = some ⟨g, 0, none⟩ := by cases hvg; rfl
            obtain ⟨xxo, xxc, hxe, -, -⟩ := (hrows.row j x l hx hl).form
            have hlL := (HLN.out j l hl).1
            have hrow0 := hrows.row j x l hx hl
            unfold OwnZ at hrow0
            obtain ⟨p, hp⟩ : ∃ p, l.length = p := ⟨_, rfl⟩
            rw [hp] at hxe hlL hrow0
            subst hxe
            have hS1 := hwr.size
            have HX := Nu.hid hx
            have HLj := Nu.hid hl
            have HP := Nu.hid hp
            have HR0 := Nu.hid hrow0
            subst hvo
            clear hrows hwr hx hl hp hvg hrow0
            go_wp2
            clear cx
            go_loopw [22, 23] (fun gw cv wx => ∃ (i : Nat) (yo' : Option Addr) (yc' : Nat) (ys' : List Value), i ≤ 40 ∧ cv = .int .i64 (i : Int) ∧ gw = .slice yo' (p + i) yc' ∧ ys'.length = i ∧ wx.ownsRow A2 3 1 (.slice yo' (p + i) yc') (p + i) (l.map (Value.int .i64) ++ ys') ∧ ((yo' = xxo ∧ yc' = xxc) ∨ ∃ g', yo' = some ⟨g', 0, none⟩ ∧ w1.heap.size ≤ g') ∧ RowsZ wx A2 (.slice (some ⟨g, 0, none⟩) k xc) xs ls' ∧ Wrote (Free A0 A1 A2 A3 A4) w12 wx ∧ w1.heap.size ≤ wx.heap.size) (fun _ cv _ => 40 - (intOf cv).toNat)
            case atStart => exact ⟨0, xxo, xxc, [], by omega, rfl, rfl, rfl, by rw [List.append_nil]; exact HR0.out, .inl ⟨rfl, rfl⟩, HRX.out, HWX.out, Nat.le_refl _⟩
            case round =>
              obtain ⟨i, yo', yc', ys', hi40, rfl, rfl, hys, hown, hyo, hrx, hwx, hsx⟩ := hrel
              have HOWN := Nu.hid hown
              have HYO := Nu.hid hyo
              have HRX2 := Nu.hid hrx
              have HWX2 := Nu.hid hwx
              have HYS := Nu.hid hys
              by_cases hi4 : i < 40
              · have hi4i : (i : Int) < 40 := by omega
                clear hown hyo hrx hwx hys
                go_wp2_with (at_builtin; refine wpList_append_keep rfl _ _ rfl A2 (p + i) yo' yc' _ (-400) rfl (World.ownsRow.alloc HOWN.out _) ⟨wr.heap.size, 0, none⟩ rfl (cell_one_new _ _ _) (by omega) (by simp; omega) ?_; refine Hid.out ?_)
                refine Nu.hid ?_
                intro g2 c2 w2' hnew hold hgrow hblk hlt2
                have hnew' : w2'.ownsRow A2 3 1 (.slice (some ⟨g2, 0, none⟩) (p + (i + 1)) c2) (p + (i + 1)) (l.map (Value.int .i64) ++ (ys' ++ [.int .i64 (-400)])) := by
                  exact hnew
                have hxrow : OwnZ w2' A2 (.slice xxo p xxc) l := by
                  unfold OwnZ
                  rw [HP.out]
                  rcases HYO.out with ⟨rfl, rfl⟩ | ⟨g', rfl, hg'⟩
                  · rcases HR0.out.2 with ⟨h', h0⟩ | ⟨gx, c', cur, e', _⟩
                    · have hl0 : l = [] := List.length_eq_zero_iff.1 (by rw [HP.out]; exact h0)
                      rw [h', hl0, h0]
                      exact World.ownsRow_nil _ _ _ _
                    · cases e'
                      exact own_prefix hold (by simp [HP.out])
                  · have hx2 := HRX2.out.row j _ l HX.out HLj.out
                    have hx3 : OwnZ w2' A2 (.slice xxo p xxc) l := hx2.same fun b hb hltb => by
                      rw [hgrow.block b (by rw [World.size_alloc]; omega) (fun e => ?_)]
                      · exact Below.heap_alloc wr _ b hltb
                      · have e3 : g' = b := by simpa [Value.ownBlock] using e.symm
                        have := HXB.out b (.inr ⟨j, _, HX.out, hb⟩)
                        omega
                    unfold OwnZ at hx3
                    rw [HP.out] at hx3
                    exact hx3
                have hrb : ∀ b, (Value.slice yo' (p + i) yc').ownBlock = some b → ((Value.slice xxo p xxc).ownBlock = some b ∨ w1.heap.size ≤ b) := fun b hb => by
                  rcases HYO.out with ⟨rfl, rfl⟩ | ⟨g', rfl, hg'⟩
                  · left
                    cases yo'
                    · cases hb
                    · exact hb
                  · have e3 : g' = b := by simpa [Value.ownBlock] using hb
                    exact .inr (by omega)
                have hr2 := (HRX2.out.later ((Below.refl wr.heap.size wr).alloc (Nat.le_refl _) (.cells #[.int .i64 (-400)] 3))).after HX.out HLj.out hgrow (S1 := w1.heap.size) hrb (fun b hb => by have := HXB.out b hb; omega) hxrow
                have hw2 := (HWX2.out.alloc (.cells #[.int .i64 (-400)] 3)).grown hgrow (fun b hb hlt => by
                  rcases hrb b hb with h1 | h1
                  · exact HXF.out b ⟨j, _, HX.out, h1⟩
                  · omega)
                have hblk2 : ((some ⟨g2, 0, none⟩ : Option Addr) = xxo ∧ c2 = xxc) ∨ ∃ g', (some ⟨g2, 0, none⟩ : Option Addr) = some ⟨g', 0, none⟩ ∧ w1.heap.size ≤ g' := by
                  rcases hblk with ⟨hb1, rfl⟩ | hb1
                  · rcases HYO.out with ⟨rfl, rfl⟩ | ⟨g', rfl, hg'⟩
                    · left
                      rcases HOWN.out.2 with ⟨h', h0⟩ | ⟨gx, c', cur, e', _⟩
                      · rw [h'] at hb1; cases hb1
                      · cases e'
                        have e3 : gx = g2 := by simpa [Value.ownBlock] using hb1
                        subst e3
                        exact ⟨rfl, rfl⟩
                    · right
                      have e3 : g' = g2 := by simpa [Value.ownBlock] using hb1
                      subst e3
                      exact ⟨g', rfl, hg'⟩
                  · right
                    exact ⟨g2, rfl, by omega⟩
                have HNEW := Nu.hid hnew'
                have HR2 := Nu.hid hr2
                have HW2 := Nu.hid hw2
                have HBK := Nu.hid hblk2
                have hsz2 := hgrow.size
                rw [World.size_alloc] at hsz2
                clear hnew hold hgrow hblk hnew' hxrow hr2 hw2 hblk2 hrb
                go_wp2
                go_roundw
                case rel => exact ⟨i + 1, some ⟨g2, 0, none⟩, c2, ys' ++ [.int .i64 (-400)], by omega, by go_num, rfl, by rw [List.length_append, HYS.out]; rfl, HNEW.out, HBK.out, HR2.out, HW2.out, by omega⟩
                case measure => simp [intOf]; omega
              · have hd3 : ¬ (i : Int) < 40 := by omega
                clear hown hyo hrx hwx hys
                go_wp2
                go_roundw
                case rel => exact ⟨j + 1, by omega, by go_num, HRX2.out, HWX2.out⟩
                case measure => simp [intOf]; omega
          · have hd4 : ¬ ((j : Int) < (k : Int)) := by omega
            obtain rfl : j = k := by omega
            have HBL := Nu.hid (keep_lst HBL12.out HWX.out (fun x hx _ h => by have h1 := HBB.out x hx; unfold Free at h; omega))
            have HWL := Nu.hid (keep_lst HWL12.out HWX.out (fun x hx h0 h => by have h1 := HWB.out x hx h0; unfold Free at h; omega))
            have HKL := Nu.hid (keep_lst HL12.out HWX.out (fun x hx h0 h => by have h1 := HKB.out x hx h0; unfold Free at h; omega))
            have HFI := Nu.hid (HWX.out.ints HFI12.out (fun h => by unfold Free at h; omega))
            have HYY : Hid (RowsZ w1 A3 (.slice yo j yc) ys gls) := HY12.out.kept fun b hb hlt => HWX.out.block b hlt (fun h => by have h1 := HYB.out b hb; unfold Free at h; omega)
            have HBE1 : Hid (Below w.heap.size w w1) := HBE.out.trans (HWX.out.below HBE.out.size (fun b hb => by unfold Free at hb; omega))
            have HSA := Nu.hid (same_true HBL.out HWL.out hrn2)
            clear hrows hwr HWR HROWS HBL12 HWL12 HL12 HFI12 HY12 HWX HXF
            go_wp2_with (go_at_call 11; refine HSA.out.mono ?_; rintro e w15 ⟨rfl, hb15⟩; have HB15 := Nu.hid hb15; have HSA15 := Nu.hid (same_true (front_lst (c := fc) (HFI.out.later hb15) HLEN.out) (HKL.out.later hb15) hn); clear hb15; refine Hid.out ?_)
            refine Nu.hid ?_
            clear HSA
            go_wp2_with (go_at_call 11; refine HSA15.out.mono ?_; rintro e w16 ⟨rfl, hb16⟩; have HB16 := Nu.hid (HB15.out.trans (hb16.mono HB15.out.size)); clear hb16; refine Hid.out ?_)
            refine Nu.hid ?_
            have HKL16 := Nu.hid (HKL.out.later HB16.out)
            have HFI16 := Nu.hid (HFI.out.later HB16.out)
            have HY16 := Nu.hid (HYY.out.later HB16.out)
            have HX16 := Nu.hid (HRX.out.later HB16.out)
            have HBE16 := Nu.hid (HBE1.out.trans (HB16.out.mono HBE1.out.size))
            clear HSA15 HKL HFI HYY HRX HBE1 HB15 HB16 HBL HWL
            go_wp2
            -- y is as it was
            go_loopw [186] (fun cv wr => ∃ t : Nat, t ≤ j ∧ cv = .int .i64 (t : Int) ∧ Below w16.heap.size w16 wr) (fun cv _ => j - (intOf cv).toNat)
            case atStart => exact ⟨0, Nat.zero_le _, rfl, Below.refl _ _⟩
            case round =>
              obtain ⟨t, ht, rfl, hb⟩ := hrel
              have HB := Nu.hid hb
              by_cases htj : t < j
              · have t0 : (0 : Int) ≤ (t : Int) := by omega
                have t1 : (t : Int) < (j : Int) := by omega
                obtain ⟨l, hl⟩ : ∃ l, gls[t]? = some l := ⟨_, List.getElem?_eq_getElem (by rw [HN.out]; exact htj)⟩
                have hlg := HGA.out t l hl
                obtain ⟨x, hx⟩ := HY16.out.at' hl
                obtain ⟨g, gc', hvg, cx⟩ := row_at' (HY16.out.later hb) hx
                rw [HN.out] at hvg
                have hvo : yo = some ⟨g, 0, none⟩ := by cases hvg; rfl
                obtain ⟨xxo, xxc, hxe, hxL, -⟩ := ((HY16.out.later hb).row t x l hx hl).lst
                have hgl := Bu.grp_length ks (t : Int)
                have hcl : ks.count (t : Int) ≤ n := by rw [← HLEN.out]; exact List.count_le_length
                rw [← hlg] at hgl
                obtain ⟨p, hp⟩ : ∃ p, l.length = p := ⟨_, rfl⟩
                rw [hp] at hxe hxL hgl
                have hp2 : p ≤ 17592186043904 := by omega
                subst hxe
                have HXL := Nu.hid hxL
                have HP := Nu.hid hp
                have HRG : Hid (Calls Try.prog 15 #[.slice ao n ca, .int .i64 (t : Int)] wr fun e w' => ∃ v, e = .returned v ∧ OwnZ w' wr.heap.size v l ∧ Below wr.heap.size wr w') := by
                  rw [hlg]
                  exact rgroup_any (t : Int) ao ca n ks wr hn (HKL16.out.later hb)
                have HBLT := Nu.hid (block_lt_of_cell cx)
                have HCX := Nu.hid cx
                subst hvo
                clear hl hlg hx hvg hxL hgl hcl hp cx hb
                go_wp2_with (go_at_call 15; refine HRG.out.mono ?_; rintro e w17 ⟨v5, rfl, ho5, hb17⟩; obtain ⟨zo, zc, hv5, hz, -⟩ := ho5.lst; rw [HP.out] at hv5 hz; subst hv5; have HSAg := Nu.hid (same_true (HXL.out.later hb17) hz hp2); have c5 := (hb17.cell (p := ⟨g, t, none⟩) HBLT.out).trans HCX.out; have HB17 := Nu.hid (HB.out.trans (hb17.mono HB.out.size)); clear ho5 hz hb17; refine Hid.out ?_)
                refine Nu.hid ?_
                clear HRG
                go_wp2_with (go_at_call 11; refine HSAg.out.mono ?_; rintro e w18 ⟨rfl, hb18⟩; have HB18 := Nu.hid (HB17.out.trans (hb18.mono HB17.out.size)); clear hb18)
                go_roundw
                case rel => exact ⟨t + 1, by omega, by go_num, HB18.out⟩
                case measure => simp [intOf]; omega
              · have hd5 : ¬ ((t : Int) < (j : Int)) := by omega
                obtain ⟨w19, rfl⟩ : ∃ w19, w19 = wr := ⟨wr, rfl⟩
                have HX19 := Nu.hid (HX16.out.later hb)
                have HFI19 := Nu.hid (HFI16.out.later hb)
                have HBE19 := Nu.hid (HBE16.out.trans (hb.mono HBE16.out.size))
                clear hb HB HX16 HFI16 HBE16 HY16 HKL16
                go_wp2
                -- x is as it was written
                go_loopw [202] (fun cv wr => ∃ t : Nat, t ≤ j ∧ cv = .int .i64 (t : Int) ∧ wr = w19) (fun cv _ => j - (intOf cv).toNat)
                case atStart => exact ⟨0, Nat.zero_le _, rfl, rfl⟩
                case round =>
                  obtain ⟨t2, ht2, rfl, hwr⟩ := hrel
                  obtain rfl := hwr.symm
                  clear hwr
                  by_cases htk : t2 < j
                  · have htki : (t2 : Int) < (j : Int) := by omega
                    have ht0 : (0 : Int) ≤ (t2 : Int) := by omega
                    obtain ⟨l, hl⟩ : ∃ l, ls'[t2]? = some l := ⟨_, List.getElem?_eq_getElem (by rw [HN'.out]; exact htk)⟩
                    obtain ⟨x, hx⟩ := HX19.out.at' hl
                    obtain ⟨g, gc', hvg, cx⟩ := row_at' HX19.out hx
                    rw [HN'.out] at hvg
                    have hvo : xo = some ⟨g, 0, none⟩ := by cases hvg; rfl
                    obtain ⟨xxo, xxc, hxe, hxat, -⟩ := (HX19.out.row t2 x l hx hl).form
                    obtain ⟨p, hp⟩ : ∃ p, l.length = p := ⟨_, rfl⟩
                    have hlL := HLN.out t2 l hl
                    rw [hp] at hxe hlL
                    have hlc : ∀ i, i < p → ∃ b o : Nat, xxo = some ⟨b, o, none⟩ ∧ w19.cell? ⟨b, o + i, none⟩ = some (.int .i64 (-300 - (t2 : Int))) := fun i hip => by
                      refine hxat i _ ?_
                      rw [hlL.2, List.getElem?_replicate, if_pos hip]
                    have HLC := Nu.hid hlc
                    have hpl := hlL.1
                    subst hxe
                    subst hvo
                    have e6 : ((-300 - (t2 : Int)) != (-300 - (t2 : Int))) = false := by simp
                    clear hl hx hvg hxat hp hlL hlc
                    go_wp2
                    go_loopw [210] (fun cv wx => ∃ i : Nat, i ≤ p ∧ cv = .int .i64 (i : Int) ∧ wx = w19) (fun cv _ => p - (intOf cv).toNat)
                    case atStart => exact ⟨0, Nat.zero_le _, rfl, rfl⟩
                    case round =>
                      obtain ⟨i, hip, rfl, hwx⟩ := hrel
                      obtain rfl := hwx.symm
                      clear hwx
                      by_cases hil : i < p
                      · have hili : (i : Int) < (p : Int) := by omega
                        have hi00 : (0 : Int) ≤ (i : Int) := by omega
                        obtain ⟨b, o, hxo, ci⟩ := HLC.out i hil
                        subst hxo
                        go_wp2
                        go_roundw
                        case rel => exact ⟨i + 1, by omega, by go_num, by first | rfl | trivial⟩
                        case measure => simp [intOf]; omega
                      · have hd6 : ¬ ((i : Int) < (p : Int)) := by omega
                        go_wp2
                        go_roundw
                        case rel => exact ⟨t2 + 1, by omega, by go_num, by first | rfl | trivial⟩
                        case measure => simp [intOf]; omega
                  · have hd7 : ¬ ((t2 : Int) < (j : Int)) := by omega
                    clear HX19 HLN
                    go_wp2
                    -- the keys are written over
                    go_loopw [28] (fun cv wr => ∃ (i : Nat) (F : List Int), i ≤ n ∧ cv = .int .i64 (i : Int) ∧ F.length = n + 2 ∧ IntsIn wr fb F ∧ Below w.heap.size w wr) (fun cv _ => n - (intOf cv).toNat)
                    case atStart => exact ⟨0, _, Nat.zero_le _, rfl, by rw [List.length_append, HLEN.out]; rfl, HFI19.out, HBE19.out⟩
                    case round =>
                      obtain ⟨i, F, hin, rfl, hFl, hFI, hb⟩ := hrel
                      have HFL := Nu.hid hFl
                      have HFI := Nu.hid hFI
                      have HBx := Nu.hid hb
                      by_cases hil : i < n
                      · have hili : (i : Int) < (n : Int) := by omega
                        have hi00 : (0 : Int) ≤ (i : Int) := by omega
                        have hi02 : (i : Int) < (n : Int) + 2 := by omega
                        obtain ⟨y, hy⟩ : ∃ y, F[i]? = some y := ⟨_, List.getElem?_eq_getElem (by omega)⟩
                        have cy := hFI.cell hy
                        have fy := hFI.free i
                        have hrem : (i : Int).tmod 3 = ((i % 3 : Nat) : Int) := by
                          rw [Int.tmod_eq_emod_of_nonneg (by omega)]
                          simp
                        have hr3 : i % 3 < 3 := Nat.mod_lt _ (by decide)
                        generalize i % 3 = r at hrem hr3
                        have HFI2 := Nu.hid (hFI.set (i := i) (by omega) (r : Int))
                        have HBx2 := Nu.hid (hb.setCell (p := ⟨fb, i, none⟩) hfw (.int .i64 (r : Int)))
                        have HFL2 : Hid ((F.set i (r : Int)).length = n + 2) := by show _ = _; rw [List.length_set]; exact hFl
                        clear hFl hFI hb hy
                        go_wp2
                        go_roundw
                        case rel => exact ⟨i + 1, _, by omega, by go_num, HFL2.out, HFI2.out, HBx2.out⟩
                        case measure => simp [intOf]; omega
                      · have hd8 : ¬ ((i : Int) < (n : Int)) := by omega
                        obtain ⟨w20, rfl⟩ : ∃ w20, w20 = wr := ⟨wr, rfl⟩
                        have hsplit : F = F.take n ++ F.drop n := (List.take_append_drop n F).symm
                        have htl : (F.take n).length = n := by rw [List.length_take, hFl]; omega
                        rw [hsplit] at hFI
                        obtain ⟨k2, hk2⟩ : ∃ k2, F.take n = k2 := ⟨_, rfl⟩
                        rw [hk2] at htl hFI
                        have HF20 := Nu.hid (front_lst (c := fc) hFI htl)
                        obtain ⟨q2, hq2⟩ : ∃ q2, Bu.fault mm k2 = q2 := ⟨_, rfl⟩
                        obtain ⟨rs2, hrs2⟩ : ∃ rs2, Bu.rs mm k2 = rs2 := ⟨_, rfl⟩
                        have hrn3 := Bu.rs_length mm k2
                        rw [hrs2, htl] at hrn3
                        have HR20 := Nu.hid (branks_own mm (some ⟨fb, 0, none⟩) fc n k2 w20 hn HF20.out)
                        have HRR2 : Hid (∀ W, Lst W (some ⟨fb, 0, none⟩) n fc k2 → Calls Try.prog 9 #[.slice (some ⟨fb, 0, none⟩) n fc, .int .i64 mm] W fun e w' => ∃ v, e = .returned (.tuple #[v, .int .i64 q2]) ∧ OwnZ w' W.heap.size v rs2 ∧ Below W.heap.size W w') := fun W h => by
                          rw [← hq2, ← hrs2]
                          exact rranks_own mm _ fc n k2 W hn h
                        rw [hq2, hrs2] at HR20
                        obtain ⟨rn2, hrn2e⟩ : ∃ rn2, rs2.length = rn2 := ⟨_, rfl⟩
                        rw [hrn2e] at hrn3
                        have HRN2 := Nu.hid hrn2e
                        have hrn4 : rn2 ≤ 17592186043904 := by omega
                        have j3 : (q2 == q2) = true := by simp
                        clear hFl hFI hb hsplit htl hk2 hq2 hrs2 hrn2e HFI HFL
                        go_wp2_with (go_at_call 10; refine HR20.out.mono ?_; rintro e w21 ⟨cv, rfl, hcv, hb21⟩; obtain ⟨cvo, cvc, hce, hcL, -⟩ := hcv.lst; rw [HRN2.out] at hce hcL; subst hce; have HCL21 := Nu.hid hcL; have HR21 := Nu.hid (HRR2.out w21 (HF20.out.later hb21)); have HB21 := Nu.hid (HBx.out.trans (hb21.mono HBx.out.size)); clear hcv hcL hb21; refine Hid.out ?_)
                        refine Nu.hid ?_
                        clear HR20 HRR2
                        go_wp2_with (go_at_call 9; refine HR21.out.mono ?_; rintro e w22 ⟨nv, rfl, hnv, hb22⟩; obtain ⟨nvo, nvc, hne, hnL, -⟩ := hnv.lst; rw [HRN2.out] at hne hnL; subst hne; have HSA22 := Nu.hid (same_true (HCL21.out.later hb22) hnL hrn4); have HB22 := Nu.hid (HB21.out.trans (hb22.mono HB21.out.size)); clear hnv hnL hb22; refine Hid.out ?_)
                        refine Nu.hid ?_
                        clear HR21
                        go_wp2_with (go_at_call 11; refine HSA22.out.mono ?_; rintro e w23 ⟨rfl, hb23⟩; have HB23 := Nu.hid (HB22.out.trans (hb23.mono HB22.out.size)); clear hb23)
                        go_ret
                        exact ⟨by first | rfl | simp, HB23.out⟩

set_option maxRecDepth 100000 in
/-- What the walk gives, for every argument and every world. -/
theorem contract (H : Type) (enc : TypeId × Value → H) (W : World) (base : Nat) (args : Array Value) (ds gs : List (DataW H)) (before : List MemPlace)
    (hval : ∀ (j : Nat) t v, Try.f7.params[j]? = some t → args[j]? = some v → Value.okWide Try.prog W .any base t v)
    (hW : DataW.Whole enc Try.prog Try.f7.params.toList Rows.bucketOwnSpec.vars false W args.toList ds gs before)
    (hsz : (DataW.weightsEach Try.prog (Try.f7.params.toList ++ (OpenSpec.ofChange Rows.bucketOwnSpec).bare.plain.varTypes Try.prog) (ds ++ gs)).all (· ≤ reachBytes) = true)
    :
    Calls Try.prog 7 args W fun e W' => ∃ v, e = .returned v ∧ Rows.bucketOwnSpec.post enc Try.prog Try.f7 false true false false W args v W' := by
  have hW' := hW
  obtain ⟨p, q, hA0, hV, rfl, hfz, hnd⟩ := hW
  have hA : DataW.TrodAll enc Try.prog W 0 (fun _ => true) true Try.f7.params.toList args.toList ds p := hA0
  rw [Try.params7] at hA hval hsz
  obtain ⟨v0, vs0, d0, ds0, p0, q0, hargs, rfl, rfl, h0, r0⟩ := trodAll_cons hA
  obtain ⟨v1, vs1, d1, ds1, p1, q1, rfl, rfl, rfl, h1, r1⟩ := trodAll_cons r0
  obtain ⟨rfl, rfl, rfl⟩ := trodAll_nil r1
  obtain rfl : args = #[v0, v1] := by cases args; simp_all
  obtain ⟨rfl, rfl⟩ := trodVars_none hV
  obtain ⟨a0, len0, cap0, rfl⟩ := okWide_slice Try.underlying22 (hval 0 22 v0 rfl rfl)
  have k0 := h0
  have lt0 : ∀ x ∈ p0, x.block < W.heap.size := by obtain ⟨m, hm⟩ := k0; exact DataW.trod_lt m _ _ _ hm
  obtain ⟨z0, w0⟩ := IsRow.of_trod (j := 0) Try.underlying22 Try.underlying3 cellsInt bytesInt h0 hsz rfl rfl
  obtain ⟨a1, rfl, rfl, rfl, w1⟩ := open_int Try.underlying3 (hval 1 3 v1 rfl rfl) h1
  clear hA0
  refine (walk a0 len0 cap0 z0 a1 W w0 w1).mono fun e W' ⟨he, bel⟩ => ?_
  subst he
  exact ⟨_, rfl, _, _, _, [], _, [], hW', trodAll_mk1 (shut_bool Try.underlying4 _), (trodAll_cons_mk (Below.trod laidOut (by kernel_rfl) (of_decide_eq_true (by kernel_rfl)) k0 bel lt0) (trodAll_cons_mk (shut_int Try.underlying3 w1) trodAll_mk0)), rfl, bel.frame _, fun h => by cases h⟩

theorem laid_met (os : Os) : laidMet Try.prog Rows.bucketOwnRow.laid ((settled os).forCall (fun _ _ => 0) ⟨#[], #[.slice none 0 0, .int .i64 0], []⟩).memory :=
  laidMet_of_run' 100 (by kernel_rfl) (by kernel_rfl)
theorem reads (os : Os) {H : Type} (enc : TypeId × Value → H) : ∃ places, DataW.whole enc Try.prog ((settled os).forCall (fun _ _ => 0) ⟨#[], #[.slice none 0 0, .int .i64 0], []⟩).memory Try.f7.params.toList Rows.bucketOwnSpec.vars false (#[.slice none 0 0, .int .i64 0] : Array Value).toList 8 = some ([.nil, .lit (.int .i64 0)], [], places) :=
  ⟨[], by kernel_rfl⟩

set_option maxRecDepth 100000 in
theorem lifted (os : Os) (started : os.Started) (H : Type) (enc : TypeId × Value → H) (F : Stop.Interp) :
    ReturnsInHanded {} Try.checked os 7 .any ((OpenSpec.ofChange Rows.bucketOwnSpec).preRow enc Try.prog Try.f7 Rows.bucketOwnRow.domain false Rows.bucketOwnRow.laid) (((OpenSpec.ofChange Rows.bucketOwnSpec).at F).post enc Try.prog Try.f7 false true false false) := by
  obtain ⟨places, hx⟩ := reads os enc
  refine returnsInHanded_of_row (C := Try.checked) (s := (OpenSpec.ofChange Rows.bucketOwnSpec)) own started (by kernel_rfl) Try.func7
    (witness_row_at (enc := enc) (C := Try.checked) false (settled os) #[.slice none 0 0, .int .i64 0] rfl (by kernel_rfl) (by kernel_rfl) (by kernel_rfl)
      (OpenSpec.preRow_of_cond 8 hx (by kernel_rfl) (fun k hk => by cases hk) (by kernel_rfl) (laid_met os))) ?_
  intro W base args ds gs before hval hW _ _ hsz _ _ _
  exact contract H enc W base args ds gs before hval hW hsz 

theorem said : Rows.BucketOwnSaid :=
  OpenClaim.holds_of_cond 7 Try.f7 rfl rfl rfl rfl rfl rfl rfl ⟨rfl, rfl, rfl, rfl, rfl⟩ rfl rfl rfl rfl rfl (by kernel_rfl) Try.func7 (by kernel_rfl)
    (of_decide_eq_true (by kernel_rfl)) (by unfold Func.isWrapper; first | (rw [if_pos (by decide +kernel)]; kernel_rfl) | (rw [if_neg (by decide +kernel)]; exact ⟨rfl, rfl⟩))
    (fun os started H enc _ F => by rw [OpenClaim.pre_eq_preRow]; exact lifted os started H enc F)

end lawOwn

theorem bucketOwn_holds : Rows.BucketOwnSaid := lawOwn.said

#print axioms bucketOwn_holds
end Go.Proofs.Ytofphdmebjcofaa
