/-
  Proved: the law CompsLimits answers true. No condition.
-/
import Derived.Test.YtoaaihbeehpgfaaCoFixed
import Derived.Test.YtoaaihbeehpgfaaKin
namespace Go.Proofs.Ytoaaihbeehpgfaa
open Go.ChangeShapes Go.WideShapes Go.ChangeAt Go.RowKit
namespace lawLimits

theorem least_top : Co.leastI 1048576 (fun x => x) 1048575 = 1048575 := by
  unfold Co.leastI
  rw [if_pos (show Co.isIn 1048576 1048575 from ⟨by omega, by omega⟩)]
  rfl
theorem least_over : Co.leastI 1048576 (fun x => x) 1048576 = -1 := by
  unfold Co.leastI
  rw [if_neg (fun h : Co.isIn 1048576 1048576 => by unfold Co.isIn at h; omega)]

set_option maxRecDepth 100000 in
set_option maxHeartbeats 8000000 in
theorem walk (w : World) : Calls Try.prog 3 #[] w fun e w' => e = .returned (.bool true) ∧ Below w.heap.size w w' := by
  have HN1 := Nu.hid (new_yes 1048576 w (Nat.le_refl _))
  have HN2 := Nu.hid (fun W => new_no 1048577 W (.inr (by omega)))
  have HN3 := Nu.hid (fun W => new_no (-1) W (.inl (by omega)))
  have HN4 := Nu.hid (fun W => new_yes 0 W (by omega))
  go_enter Try.func3, Try.ntmps3
  go_wp2_with (go_at_call 9; refine HN1.out.mono ?_; rintro e w1 ⟨p, gp, gt, rfl, hs, hb1⟩; have HS1 := Nu.hid hs; have HB1 := Nu.hid hb1; clear hs hb1; refine Hid.out ?_)
  refine Nu.hid ?_
  go_wp2_with (go_at_call 9; refine (HN2.out _).mono ?_; rintro e w2 ⟨rfl, hb2⟩; have HB2 := Nu.hid hb2; clear hb2; refine Hid.out ?_)
  refine Nu.hid ?_
  go_wp2_with (go_at_call 9; refine (HN3.out _).mono ?_; rintro e w3 ⟨rfl, hb3⟩; have HB3 := Nu.hid hb3; clear hb3; refine Hid.out ?_)
  refine Nu.hid ?_
  go_wp2_with (go_at_call 9; refine (HN4.out _).mono ?_; rintro e w4 ⟨p4, gp4, gt4, rfl, hs4, hb4⟩; have HS4 := Nu.hid hs4; have HB4 := Nu.hid hb4; clear hs4 hb4; refine Hid.out ?_)
  refine Nu.hid ?_
  clear HN1 HN2 HN3 HN4
  go_wp2_with (go_at_call 10; refine (fixed_any _).mono ?_; rintro e w5 ⟨rfl, hb5⟩; have HB5 := Nu.hid hb5; clear hb5; refine Hid.out ?_)
  refine Nu.hid ?_
  have b2 := HB1.out.trans (HB2.out.mono HB1.out.size)
  have b3 := b2.trans (HB3.out.mono b2.size)
  have b4 := b3.trans (HB4.out.mono b3.size)
  have b5 := b4.trans (HB5.out.mono b4.size)
  have q5 : IsSets w5 (some ⟨p, 0, none⟩) 1048576 (fun x => x) := .inr ⟨p, gp, gt, rfl, (((HS1.out.1.later HB2.out).later HB3.out).later HB4.out).later HB5.out⟩
  have v5 : IsSets w5 (some ⟨p4, 0, none⟩) 0 (fun x => x) := .inr ⟨p4, gp4, gt4, rfl, HS4.out.1.later HB5.out⟩
  have HB := Nu.hid b5
  have hC := count_any _ _ _ _ q5
  have hL := fun k x => least_any _ _ _ x _ (q5.drewN k)
  have hV := fun k => count_any _ _ _ _ (v5.drewN k)
  rw [Co.cnt_id] at hC
  rw [Co.cnt_id] at hV
  have l1 := least_top
  have l2 := least_over
  have HC := Nu.hid hC
  have HL := Nu.hid hL
  have HV := Nu.hid hV
  clear b2 b3 b4 b5 q5 v5 hC hL hV HB1 HB2 HB3 HB4 HB5 HS1 HS4
  go_wp2_with (go_at_call 11; refine HC.out.mono ?_; rintro e w6 ⟨rfl, hw6⟩; obtain rfl := hw6.symm; refine Hid.out ?_)
  refine Nu.hid ?_
  clear HC
  go_wp2_with (go_at_call 12; refine (HL.out 0 _).mono ?_; rintro e w6 ⟨rfl, k6, rfl⟩; refine Hid.out ?_)
  refine Nu.hid ?_
  go_wp2_with (first | (go_at_call 12; refine (HL.out _ _).mono ?_; rintro e w6 ⟨rfl, k7, rfl⟩) | (go_at_call 11; refine (HV.out _).mono ?_; rintro e w6 ⟨rfl, rfl⟩))
  go_ret
  exact ⟨rfl, below_drewN HB.out _⟩

set_option maxRecDepth 100000 in
/-- What the walk gives, for every argument and every world. -/
theorem contract (H : Type) (enc : TypeId × Value → H) (W : World) (base : Nat) (args : Array Value) (ds gs : List (DataW H)) (before : List MemPlace)
    (hval : ∀ (j : Nat) t v, Try.f3.params[j]? = some t → args[j]? = some v → Value.okWide Try.prog W .any base t v)
    (hW : DataW.Whole enc Try.prog Try.f3.params.toList Rows.compsLimitsSpec.vars false W args.toList ds gs before)
    (hsz : (DataW.weightsEach Try.prog (Try.f3.params.toList ++ (OpenSpec.ofChange Rows.compsLimitsSpec).bare.plain.varTypes Try.prog) (ds ++ gs)).all (· ≤ reachBytes) = true)
    :
    Calls Try.prog 3 args W fun e W' => ∃ v, e = .returned v ∧ Rows.compsLimitsSpec.post enc Try.prog Try.f3 false true false false W args v W' := by
  have hW' := hW
  obtain ⟨p, q, hA0, hV, rfl, hfz, hnd⟩ := hW
  have hA : DataW.TrodAll enc Try.prog W 0 (fun _ => true) true Try.f3.params.toList args.toList ds p := hA0
  rw [Try.params3] at hA hval hsz
  obtain ⟨hargs, rfl, rfl⟩ := trodAll_nil hA
  obtain rfl : args = #[] := by cases args; simp_all
  obtain ⟨rfl, rfl⟩ := trodVars_none hV
  clear hA0
  refine (walk  W ).mono fun e W' ⟨he, bel⟩ => ?_
  subst he
  exact ⟨_, rfl, _, _, _, [], _, [], hW', trodAll_mk1 (shut_bool Try.underlying4 _), trodAll_mk0, rfl, bel.frame _, fun h => by cases h⟩

theorem laid_met (os : Os) : laidMet Try.prog Rows.compsLimitsRow.laid ((settled os).forCall (fun _ _ => 0) ⟨#[], #[], []⟩).memory :=
  laidMet_of_run' 100 (by kernel_rfl) (by kernel_rfl)
theorem reads (os : Os) {H : Type} (enc : TypeId × Value → H) : ∃ places, DataW.whole enc Try.prog ((settled os).forCall (fun _ _ => 0) ⟨#[], #[], []⟩).memory Try.f3.params.toList Rows.compsLimitsSpec.vars false (#[] : Array Value).toList 8 = some ([], [], places) :=
  ⟨[], by kernel_rfl⟩

set_option maxRecDepth 100000 in
theorem lifted (os : Os) (started : os.Started) (H : Type) (enc : TypeId × Value → H) (F : Stop.Interp) :
    ReturnsInHanded {} Try.checked os 3 .any ((OpenSpec.ofChange Rows.compsLimitsSpec).preRow enc Try.prog Try.f3 Rows.compsLimitsRow.domain false Rows.compsLimitsRow.laid) (((OpenSpec.ofChange Rows.compsLimitsSpec).at F).post enc Try.prog Try.f3 false true false false) := by
  obtain ⟨places, hx⟩ := reads os enc
  refine returnsInHanded_of_row (C := Try.checked) (s := (OpenSpec.ofChange Rows.compsLimitsSpec)) own started (by kernel_rfl) Try.func3
    (witness_row_at (enc := enc) (C := Try.checked) false (settled os) #[] rfl (by kernel_rfl) (by kernel_rfl) (by kernel_rfl)
      (OpenSpec.preRow_of_cond 8 hx (by kernel_rfl) (fun k hk => by cases hk) (by kernel_rfl) (laid_met os))) ?_
  intro W base args ds gs before hval hW _ _ hsz _ _ _
  exact contract H enc W base args ds gs before hval hW hsz 

theorem said : Rows.CompsLimitsSaid :=
  OpenClaim.holds_of_cond 3 Try.f3 rfl rfl rfl rfl rfl rfl rfl ⟨rfl, rfl, rfl, rfl, rfl⟩ rfl rfl rfl rfl rfl (by kernel_rfl) Try.func3 (by kernel_rfl)
    (of_decide_eq_true (by kernel_rfl)) (by unfold Func.isWrapper; first | (rw [if_pos (by decide +kernel)]; kernel_rfl) | (rw [if_neg (by decide +kernel)]; exact ⟨rfl, rfl⟩))
    (fun os started H enc _ F => by rw [OpenClaim.pre_eq_preRow]; exact lifted os started H enc F)

end lawLimits

theorem compsLimits_holds : Rows.CompsLimitsSaid := lawLimits.said

#print axioms compsLimits_holds
end Go.Proofs.Ytoaaihbeehpgfaa
