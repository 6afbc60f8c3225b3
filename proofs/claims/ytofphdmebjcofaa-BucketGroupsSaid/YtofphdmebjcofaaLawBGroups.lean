/-
  Proved: for every list of keys and every number the law BucketGroups answers true, and the list reads afterwards as before. No condition.
-/
import Derived.Test.YtofphdmebjcofaaBuLook
namespace Go.Proofs.Ytofphdmebjcofaa
open Go.ChangeShapes Go.WideShapes Go.ChangeAt Go.RowKit
namespace lawGroups

set_option maxRecDepth 100000 in
set_option maxHeartbeats 16000000 in
theorem walk (ao : Option Addr) (n ca : Nat) (zs : List Int) (most : Int) (w : World) (hr : IsRow .i64 8 w ao n ca zs) (_ : (Lit.int .i64 most).wf = true) :
    Calls Try.prog 5 #[.slice ao n ca, .int .i64 most] w fun e w' => e = .returned (.bool true) ∧ Below w.heap.size w w' := by
  have hn := hr.few
  have HL := Nu.hid hr.lst
  clear hr
  obtain ⟨ks, hks⟩ : ∃ ks, zs.take n = ks := ⟨_, rfl⟩
  rw [hks] at HL
  clear hks
  go_enter Try.func5, Try.ntmps5
  go_wp2_with (go_at_call 8; refine (wakes_any _).mono ?_; rintro e w1 ⟨rfl, hb1⟩; have HB1 := Nu.hid hb1; clear hb1; refine Hid.out ?_)
  refine Nu.hid ?_
  have HL1 := Nu.hid (HL.out.later HB1.out)
  have HFL := Nu.hid (fault_any most ao ca n ks w1 hn HL1.out)
  obtain ⟨sn, hsn⟩ : ∃ sn, Bu.seen most ks = sn := ⟨_, rfl⟩
  rw [hsn] at HFL
  clear hsn
  by_cases hf : Bu.fault most ks = 0
  · rw [hf] at HFL
    have HF := Nu.hid hf
    obtain ⟨f0, f1, f2, -⟩ := fault_few hf
    have HIN := Nu.hid f2
    obtain ⟨m, rfl⟩ : ∃ m : Nat, most = (m : Int) := ⟨most.toNat, by omega⟩
    clear hf f2
    go_wp2_with (go_at_call 13; refine HFL.out.mono ?_; rintro e w2 ⟨rfl, hw2⟩; obtain rfl := hw2.symm; refine Hid.out ?_)
    refine Nu.hid ?_
    clear HFL
    by_cases hbig : (100000 : Int) < (m : Int)
    · go_wp2
      go_ret
      exact ⟨rfl, HB1.out⟩
    · go_wp2_with (at_builtin; refine wpList_copy_lst rfl _ _ rfl w1 ao n ca _ rfl rfl HL1.out hn ?_; refine Hid.out ?_)
      refine Nu.hid ?_
      intro gb c w3 hrow hgb hlt hc hb
      have HS := Nu.hid (group_yes m (some ⟨gb, 0, none⟩) c n ks w3 hn (row_lst hrow HL.out.len) HF.out)
      have HB3 := Nu.hid (HB1.out.trans (hb.mono HB1.out.size))
      have HL3 := Nu.hid (HL1.out.later hb)
      clear hrow hgb hb
      go_wp2_with (go_at_call 14; refine HS.out.mono ?_; rintro e w4 ⟨g, cg, vs, rfl, hrows, hb4⟩; have HROWS := Nu.hid hrows; have HL4 := Nu.hid (HL3.out.later hb4); have HB4 := Nu.hid (HB3.out.trans (hb4.mono HB3.out.size)); clear hrows hb4; refine Hid.out ?_)
      refine Nu.hid ?_
      clear HS HL3 HB3 HL1 HB1 HL
      go_wp2
      go_loopw [9] (fun cv wr => ∃ k : Nat, k ≤ m + 1 ∧ cv = .int .i64 k ∧ Below w4.heap.size w4 wr) (fun cv _ => m + 1 - (intOf cv).toNat)
      case atStart => exact ⟨0, Nat.zero_le _, rfl, Below.refl _ _⟩
      case round =>
        obtain ⟨k, hk, rfl, hb⟩ := hrel
        have HB := Nu.hid hb
        by_cases hlt : k < m + 1
        · have k0 : (0 : Int) ≤ (k : Int) := by omega
          have k1 : (k : Int) ≤ (m : Int) := by omega
          have k2 : (k : Int) < (m : Int) + 1 := by omega
          obtain ⟨xo, xc, c0, hx⟩ := (HROWS.out.later hb).look (Bu.groups_at ks hlt)
          have hgl := Bu.grp_length ks (k : Int)
          have hcl : ks.count (k : Int) ≤ n := by rw [← HL4.out.len]; exact List.count_le_length
          have HX := Nu.hid hx
          have HRG := Nu.hid (rgroup_any (k : Int) ao ca n ks wr hn (HL4.out.later hb))
          rw [hgl] at c0 HX
          obtain ⟨q, hq⟩ : ∃ q, ks.count (k : Int) = q := ⟨_, rfl⟩
          rw [hq] at c0 HX hcl hgl
          have hq2 : q ≤ 17592186043904 := by omega
          have HBL := Nu.hid (block_lt_of_cell c0)
          have HC0 := Nu.hid c0
          have HGL := Nu.hid hgl
          clear hx hb hq hgl
          by_cases hlook : 0 < q ∨ k < 100
          · by_cases h0 : (0 : Int) < (q : Int)
            · go_wp2_with (go_at_call 15; refine HRG.out.mono ?_; rintro e w5 ⟨v5, rfl, ho5, hb5⟩; obtain ⟨yo, yc, hv5, hy, -⟩ := ho5.lst; rw [HGL.out] at hv5 hy; subst hv5; have HSA := Nu.hid (same_true (HX.out.later hb5) hy (by omega)); have c5 := (hb5.cell (p := ⟨g, k, none⟩) HBL.out).trans HC0.out; have HB5 := Nu.hid (HB.out.trans (hb5.mono HB.out.size)); clear ho5 hy hb5; refine Hid.out ?_)
              refine Nu.hid ?_
              clear HRG
              go_wp2_with (go_at_call 11; refine HSA.out.mono ?_; rintro e w6 ⟨rfl, hb6⟩; have HB6 := Nu.hid (HB5.out.trans (hb6.mono HB5.out.size)); clear hb6)
              go_roundw
              case rel => exact ⟨k + 1, by omega, by go_num, HB6.out⟩
              case measure => simp [intOf]; omega
            · have h1 : (k : Int) < 100 := by omega
              obtain rfl : q = 0 := by omega
              clear h0 hlook hcl hq2
              go_wp2_with (go_at_call 15; refine HRG.out.mono ?_; rintro e w5 ⟨v5, rfl, ho5, hb5⟩; obtain ⟨yo, yc, hv5, hy, -⟩ := ho5.lst; rw [HGL.out] at hv5 hy; subst hv5; have HSA := Nu.hid (same_true (HX.out.later hb5) hy (by omega)); have c5 := (hb5.cell (p := ⟨g, k, none⟩) HBL.out).trans HC0.out; have HB5 := Nu.hid (HB.out.trans (hb5.mono HB.out.size)); clear ho5 hy hb5; refine Hid.out ?_)
              refine Nu.hid ?_
              clear HRG
              go_wp2_with (go_at_call 11; refine HSA.out.mono ?_; rintro e w6 ⟨rfl, hb6⟩; have HB6 := Nu.hid (HB5.out.trans (hb6.mono HB5.out.size)); clear hb6)
              go_roundw
              case rel => exact ⟨k + 1, by omega, by go_num, HB6.out⟩
              case measure => simp [intOf]; omega
          · obtain rfl : q = 0 := by omega
            have h1 : ¬ ((k : Int) < 100) := by omega
            clear HRG hlook
            go_wp2
            go_roundw
            case rel => exact ⟨k + 1, by omega, by go_num, HB.out⟩
            case measure => simp [intOf]; omega
        · have hd : ¬ ((k : Int) ≤ (m : Int)) := by omega
          have HZ : Hid (Bu.less ks 0 = 0) := Bu.less_zero HIN.out
          clear hb
          go_wp2
          go_loopw [11, 12] (fun sv cv wx => ∃ j : Nat, j ≤ m + 1 ∧ cv = .int .i64 j ∧ sv = .int .i64 (Bu.less ks (j : Int) : Int) ∧ wx = wr) (fun _ cv _ => m + 1 - (intOf cv).toNat)
          case atStart => exact ⟨0, Nat.zero_le _, rfl, by rw [show ((0 : Nat) : Int) = 0 by rfl, HZ.out]; rfl, rfl⟩
          case round =>
            obtain ⟨j, hj, rfl, rfl, hwx⟩ := hrel
            subst hwx
            by_cases hlt2 : j < m + 1
            · have k0 : (0 : Int) ≤ (j : Int) := by omega
              have k1 : (j : Int) ≤ (m : Int) := by omega
              have k2 : (j : Int) < (m : Int) + 1 := by omega
              obtain ⟨xo, xc, c0, hx⟩ := (HROWS.out.later HB.out).look (Bu.groups_at ks hlt2)
              have hll := Bu.less_le ks (j : Int)
              have hcl : ks.count (j : Int) ≤ n := by rw [← HL4.out.len]; exact List.count_le_length
              have hls : Bu.less ks ((j + 1 : Nat) : Int) = Bu.less ks (j : Int) + ks.count (j : Int) := by
                rw [show ((j + 1 : Nat) : Int) = (j : Int) + 1 by omega]
                exact Bu.less_succ ks j
              have HLS := Nu.hid hls
              rw [Bu.grp_length] at c0
              rw [HL4.out.len] at hll
              obtain ⟨q, hq⟩ : ∃ q, ks.count (j : Int) = q := ⟨_, rfl⟩
              obtain ⟨r, hr⟩ : ∃ r, Bu.less ks (j : Int) = r := ⟨_, rfl⟩
              rw [hq] at c0 hcl
              rw [hr] at hll ⊢
              rw [hr, hq] at HLS
              clear hx hls hq hr
              go_wp2
              go_roundw
              case rel => exact ⟨j + 1, by omega, by go_num, by rw [HLS.out]; go_num, by first | rfl | trivial⟩
              case measure => simp [intOf]; omega
            · have hd2 : ¬ ((j : Int) ≤ (m : Int)) := by omega
              obtain rfl : j = m + 1 := by omega
              have hall := Bu.less_all HIN.out
              rw [HL4.out.len] at hall
              rw [show ((m + 1 : Nat) : Int) = (m : Int) + 1 by omega, hall]
              clear hall
              go_wp2
              go_ret
              exact ⟨by first | rfl | simp, HB4.out.trans (HB.out.mono HB4.out.size)⟩
  · have HF := Nu.hid hf
    have HG : Hid (∀ W bo cb, Lst W bo n cb ks → Calls Try.prog 14 #[.slice bo n cb, .int .i64 most] W fun e w' => e = .returned (.tuple #[.slice none 0 0, .int .i64 (Bu.fault most ks)]) ∧ Below W.heap.size W w') := fun W bo cb h => group_no most bo cb n ks W hn h hf
    obtain ⟨q, hq⟩ : ∃ q, Bu.fault most ks = q := ⟨_, rfl⟩
    rw [hq] at HFL HG hf
    have j0 : (q != 0) = true := by simp [hf]
    have j1 : (q == 0) = false := by simp [hf]
    have j2 : (q != q) = false := by simp
    clear hq HF
    go_wp2_with (go_at_call 13; refine HFL.out.mono ?_; rintro e w2 ⟨rfl, hw2⟩; obtain rfl := hw2.symm; refine Hid.out ?_)
    refine Nu.hid ?_
    clear HFL
    by_cases hbig : (100000 : Int) < most
    · go_wp2_with (at_builtin; refine wpList_copy_lst rfl _ _ rfl w1 ao n ca _ rfl rfl HL1.out hn ?_; refine Hid.out ?_)
      refine Nu.hid ?_
      intro gb c w3 hrow hgb hlt hc hb
      have HS := Nu.hid (HG.out w3 _ c (row_lst hrow HL.out.len))
      have HB3 := Nu.hid (HB1.out.trans (hb.mono HB1.out.size))
      clear hrow hgb hb
      go_wp2_with (go_at_call 14; refine HS.out.mono ?_; rintro e w4 ⟨rfl, hb4⟩; have HB4 := Nu.hid (HB3.out.trans (hb4.mono HB3.out.size)); clear hb4)
      go_ret
      exact ⟨rfl, HB4.out⟩
    · go_wp2_with (at_builtin; refine wpList_copy_lst rfl _ _ rfl w1 ao n ca _ rfl rfl HL1.out hn ?_; refine Hid.out ?_)
      refine Nu.hid ?_
      intro gb c w3 hrow hgb hlt hc hb
      have HS := Nu.hid (HG.out w3 _ c (row_lst hrow HL.out.len))
      have HB3 := Nu.hid (HB1.out.trans (hb.mono HB1.out.size))
      clear hrow hgb hb
      go_wp2_with (go_at_call 14; refine HS.out.mono ?_; rintro e w4 ⟨rfl, hb4⟩; have HB4 := Nu.hid (HB3.out.trans (hb4.mono HB3.out.size)); clear hb4)
      go_ret
      exact ⟨rfl, HB4.out⟩

set_option maxRecDepth 100000 in
/-- What the walk gives, for every argument and every world. -/
theorem contract (H : Type) (enc : TypeId × Value → H) (W : World) (base : Nat) (args : Array Value) (ds gs : List (DataW H)) (before : List MemPlace)
    (hval : ∀ (j : Nat) t v, Try.f5.params[j]? = some t → args[j]? = some v → Value.okWide Try.prog W .any base t v)
    (hW : DataW.Whole enc Try.prog Try.f5.params.toList Rows.bucketGroupsSpec.vars false W args.toList ds gs before)
    (hsz : (DataW.weightsEach Try.prog (Try.f5.params.toList ++ (OpenSpec.ofChange Rows.bucketGroupsSpec).bare.plain.varTypes Try.prog) (ds ++ gs)).all (· ≤ reachBytes) = true)
    :
    Calls Try.prog 5 args W fun e W' => ∃ v, e = .returned v ∧ Rows.bucketGroupsSpec.post enc Try.prog Try.f5 false true false false W args v W' := by
  have hW' := hW
  obtain ⟨p, q, hA0, hV, rfl, hfz, hnd⟩ := hW
  have hA : DataW.TrodAll enc Try.prog W 0 (fun _ => true) true Try.f5.params.toList args.toList ds p := hA0
  rw [Try.params5] at hA hval hsz
  obtain ⟨v0, vs0, d0, ds0, p0, q0, hargs, rfl, rfl, h0, r0⟩ := trodAll_cons hA
  obtain ⟨v1, vs1, d1, ds1, p1, q1, rfl, rfl, rfl, h1, r1⟩ := trodAll_cons r0
  obtain ⟨rfl, rfl, rfl⟩ := trodAll_nil r1
  obtain rfl : args = #[v0, v1] := by cases args; simp_all
  obtain ⟨rfl, rfl⟩ := trodVars_none hV
  obtain ⟨a0, len0, cap0, rfl⟩ := okWide_slice Try.underlying22 (hval 0 22 v0 rfl rfl)
  have k0 := h0
  have lt0 : ∀ x ∈ p0, x.block < W.heap.size := by obtain ⟨m, hm⟩ := k0; exact DataW.trod_lt m _ _ _ hm
  obtain ⟨z0, w0⟩ := IsRow.of_trod (j := 0) Try.underlying22 Try.underlying3 cellsInt bytesInt h0 hsz rfl rfl
  obtain ⟨a1, rfl, rfl, rfl, w1⟩ := open_int Try.underlying3 (hval 1 3 v1 rfl rfl) h1
  clear hA0
  refine (walk a0 len0 cap0 z0 a1 W w0 w1).mono fun e W' ⟨he, bel⟩ => ?_
  subst he
  exact ⟨_, rfl, _, _, _, [], _, [], hW', trodAll_mk1 (shut_bool Try.underlying4 _), (trodAll_cons_mk (Below.trod laidOut (by kernel_rfl) (of_decide_eq_true (by kernel_rfl)) k0 bel lt0) (trodAll_cons_mk (shut_int Try.underlying3 w1) trodAll_mk0)), rfl, bel.frame _, fun h => by cases h⟩

theorem laid_met (os : Os) : laidMet Try.prog Rows.bucketGroupsRow.laid ((settled os).forCall (fun _ _ => 0) ⟨#[], #[.slice none 0 0, .int .i64 0], []⟩).memory :=
  laidMet_of_run' 100 (by kernel_rfl) (by kernel_rfl)
theorem reads (os : Os) {H : Type} (enc : TypeId × Value → H) : ∃ places, DataW.whole enc Try.prog ((settled os).forCall (fun _ _ => 0) ⟨#[], #[.slice none 0 0, .int .i64 0], []⟩).memory Try.f5.params.toList Rows.bucketGroupsSpec.vars false (#[.slice none 0 0, .int .i64 0] : Array Value).toList 8 = some ([.nil, .lit (.int .i64 0)], [], places) :=
  ⟨[], by kernel_rfl⟩

set_option maxRecDepth 100000 in
theorem lifted (os : Os) (started : os.Started) (H : Type) (enc : TypeId × Value → H) (F : Stop.Interp) :
    ReturnsInHanded {} Try.checked os 5 .any ((OpenSpec.ofChange Rows.bucketGroupsSpec).preRow enc Try.prog Try.f5 Rows.bucketGroupsRow.domain false Rows.bucketGroupsRow.laid) (((OpenSpec.ofChange Rows.bucketGroupsSpec).at F).post enc Try.prog Try.f5 false true false false) := by
  obtain ⟨places, hx⟩ := reads os enc
  refine returnsInHanded_of_row (C := Try.checked) (s := (OpenSpec.ofChange Rows.bucketGroupsSpec)) own started (by kernel_rfl) Try.func5
    (witness_row_at (enc := enc) (C := Try.checked) false (settled os) #[.slice none 0 0, .int .i64 0] rfl (by kernel_rfl) (by kernel_rfl) (by kernel_rfl)
      (OpenSpec.preRow_of_cond 8 hx (by kernel_rfl) (fun k hk => by cases hk) (by kernel_rfl) (laid_met os))) ?_
  intro W base args ds gs before hval hW _ _ hsz _ _ _
  exact contract H enc W base args ds gs before hval hW hsz 

theorem said : Rows.BucketGroupsSaid :=
  OpenClaim.holds_of_cond 5 Try.f5 rfl rfl rfl rfl rfl rfl rfl ⟨rfl, rfl, rfl, rfl, rfl⟩ rfl rfl rfl rfl rfl (by kernel_rfl) Try.func5 (by kernel_rfl)
    (of_decide_eq_true (by kernel_rfl)) (by unfold Func.isWrapper; first | (rw [if_pos (by decide +kernel)]; kernel_rfl) | (rw [if_neg (by decide +kernel)]; exact ⟨rfl, rfl⟩))
    (fun os started H enc _ F => by rw [OpenClaim.pre_eq_preRow]; exact lifted os started H enc F)

end lawGroups

theorem bucketGroups_holds : Rows.BucketGroupsSaid := lawGroups.said

#print axioms bucketGroups_holds
end Go.Proofs.Ytofphdmebjcofaa
