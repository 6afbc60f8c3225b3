/-
  Proved: for every list of keys and every number the law BucketRanks answers true, and the list reads afterwards as before. No condition.
-/
import Derived.Test.YtofphdmebjcofaaBuIn
import Derived.Test.YtofphdmebjcofaaBuRef2
namespace Go.Proofs.Ytofphdmebjcofaa
open Go.ChangeShapes Go.WideShapes Go.ChangeAt Go.RowKit
namespace lawRanks

/-- What both Ranks answer, as one thing: a list and a number. -/
theorem rranks_one (most : Int) (ao : Option Addr) (ca n : Nat) (ks : List Int) (w : World) (hl : n ≤ 17592186043904) (ha : Lst w ao n ca ks) :
    Calls Try.prog 9 #[.slice ao n ca, .int .i64 most] w fun e w' => ∃ bo m cb, e = .returned (.tuple #[.slice bo m cb, .int .i64 (Bu.fault most ks)]) ∧ Lst w' bo m cb (if Bu.fault most ks = 0 then Bu.ranks ks else []) ∧ m ≤ 17592186043904 ∧ Below w.heap.size w w' :=
  (rranks_any most ao ca n ks w hl ha).mono (by
    rintro e w' ⟨⟨h1, rfl⟩ | ⟨h1, v, rfl, h2⟩, hb⟩
    · rw [if_neg h1]
      exact ⟨none, 0, 0, rfl, ⟨rfl, IntsAt.nil _ _, fun _ => ⟨rfl, rfl⟩⟩, by omega, hb⟩
    · obtain ⟨bo, cb, rfl, h3, -⟩ := h2.lst
      rw [if_pos h1, h1]
      exact ⟨bo, _, cb, rfl, h3, by rw [Bu.ranks_length, ha.len]; exact hl, hb⟩)

theorem branks_one (most : Int) (ao : Option Addr) (ca n : Nat) (ks : List Int) (w : World) (hl : n ≤ 17592186043904) (ha : Lst w ao n ca ks) :
    Calls Try.prog 10 #[.slice ao n ca, .int .i64 most] w fun e w' => ∃ bo m cb, e = .returned (.tuple #[.slice bo m cb, .int .i64 (Bu.fault most ks)]) ∧ Lst w' bo m cb (if Bu.fault most ks = 0 then Bu.ranks ks else []) ∧ m ≤ 17592186043904 ∧ Below w.heap.size w w' :=
  (branks_any most ao ca n ks w hl ha).mono (by
    rintro e w' ⟨⟨h1, rfl⟩ | ⟨h1, g, rfl, -, h2⟩, hb⟩
    · rw [if_neg h1]
      exact ⟨none, 0, 0, rfl, ⟨rfl, IntsAt.nil _ _, fun _ => ⟨rfl, rfl⟩⟩, by omega, hb⟩
    · rw [if_pos h1, h1]
      exact ⟨_, _, _, rfl, h2.lst (Bu.ranks_length ks), by rw [ha.len]; exact hl, hb⟩)

set_option maxRecDepth 100000 in
set_option maxHeartbeats 8000000 in
theorem walk (ao : Option Addr) (n ca : Nat) (zs : List Int) (most : Int) (w : World) (hr : IsRow .i64 8 w ao n ca zs) (_ : (Lit.int .i64 most).wf = true) :
    Calls Try.prog 3 #[.slice ao n ca, .int .i64 most] w fun e w' => e = .returned (.bool true) ∧ Below w.heap.size w w' := by
  have hn := hr.few
  have HL := Nu.hid hr.lst
  clear hr
  obtain ⟨ks, hks⟩ : ∃ ks, zs.take n = ks := ⟨_, rfl⟩
  rw [hks] at HL
  clear hks
  go_enter Try.func3, Try.ntmps3
  go_wp2_with (go_at_call 8; refine (wakes_any _).mono ?_; rintro e w1 ⟨rfl, hb1⟩; have HB1 := Nu.hid hb1; clear hb1; refine Hid.out ?_)
  refine Nu.hid ?_
  have HL1 := Nu.hid (HL.out.later HB1.out)
  have HR1 := Nu.hid (rranks_one most ao ca n ks w1 hn HL1.out)
  obtain ⟨q, hq⟩ : ∃ q, Bu.fault most ks = q := ⟨_, rfl⟩
  obtain ⟨rs, hrs⟩ : ∃ rs, (if Bu.fault most ks = 0 then Bu.ranks ks else []) = rs := ⟨_, rfl⟩
  have HBR : Hid (∀ W bo cb, Lst W bo n cb ks → Calls Try.prog 10 #[.slice bo n cb, .int .i64 most] W fun e w' => ∃ bo m cb, e = .returned (.tuple #[.slice bo m cb, .int .i64 q]) ∧ Lst w' bo m cb rs ∧ m ≤ 17592186043904 ∧ Below W.heap.size W w') := fun W bo cb h => by
    rw [← hrs, ← hq]
    exact branks_one most bo cb n ks W hn h
  rw [hrs, hq] at HR1
  clear hrs hq HL
  go_wp2_with (go_at_call 9; refine HR1.out.mono ?_; rintro e w2 ⟨bo, m, cb, rfl, hl2, hm2, hb2⟩; have HL2 := Nu.hid hl2; have HB2 := Nu.hid (HB1.out.trans (hb2.mono HB1.out.size)); have HL1' := Nu.hid (HL1.out.later hb2); clear hl2 hb2; refine Hid.out ?_)
  refine Nu.hid ?_
  go_wp2_with (at_builtin; refine wpList_copy_lst rfl _ _ rfl w2 ao n ca _ rfl rfl HL1'.out hn ?_; refine Hid.out ?_)
  refine Nu.hid ?_
  intro gb c w3 hrow hgb hlt hc hb
  have HS := Nu.hid (HBR.out w3 _ c (row_lst hrow HL1'.out.len))
  have HB3 := Nu.hid (HB2.out.trans (hb.mono HB2.out.size))
  have HL3 := Nu.hid (HL2.out.later hb)
  clear hrow hgb hb
  go_wp2_with (go_at_call 10; refine HS.out.mono ?_; rintro e w4 ⟨co, m4, cc, rfl, hl4, hm4, hb4⟩; have HSA := Nu.hid (same_true hl4 (HL3.out.later hb4) hm4); have HB4 := Nu.hid (HB3.out.trans (hb4.mono HB3.out.size)); clear hl4 hb4; refine Hid.out ?_)
  refine Nu.hid ?_
  go_wp2_with (go_at_call 11; refine HSA.out.mono ?_; rintro e w5 ⟨rfl, hb5⟩; have HB5 := Nu.hid hb5; clear hb5)
  go_ret
  exact ⟨by simp, HB4.out.trans (HB5.out.mono HB4.out.size)⟩

set_option maxRecDepth 100000 in
/-- What the walk gives, for every argument and every world. -/
theorem contract (H : Type) (enc : TypeId × Value → H) (W : World) (base : Nat) (args : Array Value) (ds gs : List (DataW H)) (before : List MemPlace)
    (hval : ∀ (j : Nat) t v, Try.f3.params[j]? = some t → args[j]? = some v → Value.okWide Try.prog W .any base t v)
    (hW : DataW.Whole enc Try.prog Try.f3.params.toList Rows.bucketRanksSpec.vars false W args.toList ds gs before)
    (hsz : (DataW.weightsEach Try.prog (Try.f3.params.toList ++ (OpenSpec.ofChange Rows.bucketRanksSpec).bare.plain.varTypes Try.prog) (ds ++ gs)).all (· ≤ reachBytes) = true)
    :
    Calls Try.prog 3 args W fun e W' => ∃ v, e = .returned v ∧ Rows.bucketRanksSpec.post enc Try.prog Try.f3 false true false false W args v W' := by
  have hW' := hW
  obtain ⟨p, q, hA0, hV, rfl, hfz, hnd⟩ := hW
  have hA : DataW.TrodAll enc Try.prog W 0 (fun _ => true) true Try.f3.params.toList args.toList ds p := hA0
  rw [Try.params3] at hA hval hsz
  obtain ⟨v0, vs0, d0, ds0, p0, q0, hargs, rfl, rfl, h0, r0⟩ := trodAll_cons hA
  obtain ⟨v1, vs1, d1, ds1, p1, q1, rfl, rfl, rfl, h1, r1⟩ := trodAll_cons r0
  obtain ⟨rfl, rfl, rfl⟩ := trodAll_nil r1
  obtain rfl : args = #[v0, v1] := by cases args; simp_all
  obtain ⟨rfl, rfl⟩ := trodVars_none hV
  obtain ⟨a0, len0, cap0, rfl⟩ := okWide_slice Try.underlying22 (hval 0 22 v0 rfl rfl)
  have k0 := h0
  have lt0 : ∀ x ∈ p0, x.block < W.heap.size := by obtain ⟨m, hm⟩ := k0; exact DataW.trod_lt m _ _ _ hm
  obtain ⟨z0, w0⟩ := IsRow.of_trod (j := 0) Try.underlying22 Try.underlying3 cellsInt bytesInt h0 hsz rfl rfl
  obtain ⟨a1, rfl, rfl, rfl, w1⟩ := open_int Try.underlying3 (hval 1 3 v1 rfl rfl) h1
  clear hA0
  refine (walk a0 len0 cap0 z0 a1 W w0 w1).mono fun e W' ⟨he, bel⟩ => ?_
  subst he
  exact ⟨_, rfl, _, _, _, [], _, [], hW', trodAll_mk1 (shut_bool Try.underlying4 _), (trodAll_cons_mk (Below.trod laidOut (by kernel_rfl) (of_decide_eq_true (by kernel_rfl)) k0 bel lt0) (trodAll_cons_mk (shut_int Try.underlying3 w1) trodAll_mk0)), rfl, bel.frame _, fun h => by cases h⟩

theorem laid_met (os : Os) : laidMet Try.prog Rows.bucketRanksRow.laid ((settled os).forCall (fun _ _ => 0) ⟨#[], #[.slice none 0 0, .int .i64 0], []⟩).memory :=
  laidMet_of_run' 100 (by kernel_rfl) (by kernel_rfl)
theorem reads (os : Os) {H : Type} (enc : TypeId × Value → H) : ∃ places, DataW.whole enc Try.prog ((settled os).forCall (fun _ _ => 0) ⟨#[], #[.slice none 0 0, .int .i64 0], []⟩).memory Try.f3.params.toList Rows.bucketRanksSpec.vars false (#[.slice none 0 0, .int .i64 0] : Array Value).toList 8 = some ([.nil, .lit (.int .i64 0)], [], places) :=
  ⟨[], by kernel_rfl⟩

set_option maxRecDepth 100000 in
theorem lifted (os : Os) (started : os.Started) (H : Type) (enc : TypeId × Value → H) (F : Stop.Interp) :
    ReturnsInHanded {} Try.checked os 3 .any ((OpenSpec.ofChange Rows.bucketRanksSpec).preRow enc Try.prog Try.f3 Rows.bucketRanksRow.domain false Rows.bucketRanksRow.laid) (((OpenSpec.ofChange Rows.bucketRanksSpec).at F).post enc Try.prog Try.f3 false true false false) := by
  obtain ⟨places, hx⟩ := reads os enc
  refine returnsInHanded_of_row (C := Try.checked) (s := (OpenSpec.ofChange Rows.bucketRanksSpec)) own started (by kernel_rfl) Try.func3
    (witness_row_at (enc := enc) (C := Try.checked) false (settled os) #[.slice none 0 0, .int .i64 0] rfl (by kernel_rfl) (by kernel_rfl) (by kernel_rfl)
      (OpenSpec.preRow_of_cond 8 hx (by kernel_rfl) (fun k hk => by cases hk) (by kernel_rfl) (laid_met os))) ?_
  intro W base args ds gs before hval hW _ _ hsz _ _ _
  exact contract H enc W base args ds gs before hval hW hsz 

theorem said : Rows.BucketRanksSaid :=
  OpenClaim.holds_of_cond 3 Try.f3 rfl rfl rfl rfl rfl rfl rfl ⟨rfl, rfl, rfl, rfl, rfl⟩ rfl rfl rfl rfl rfl (by kernel_rfl) Try.func3 (by kernel_rfl)
    (of_decide_eq_true (by kernel_rfl)) (by unfold Func.isWrapper; first | (rw [if_pos (by decide +kernel)]; kernel_rfl) | (rw [if_neg (by decide +kernel)]; exact ⟨rfl, rfl⟩))
    (fun os started H enc _ F => by rw [OpenClaim.pre_eq_preRow]; exact lifted os started H enc F)

end lawRanks

theorem bucketRanks_holds : Rows.BucketRanksSaid := lawRanks.said

#print axioms bucketRanks_holds
end Go.Proofs.Ytofphdmebjcofaa
