/-
  Proved: for every list of numbers and every two numbers that hold together at most 1048576 values, the law NumsTexts answers true, and the arguments read afterwards as before.
-/
import Derived.Test.YtcglpafbmekabaaDoorBaseInts
namespace Go.Proofs.YtcglpafbmekabaaDoor
open Go.ChangeShapes Go.WideShapes Go.ChangeAt Go.RowKit

namespace lawTexts

set_option maxRecDepth 100000 in
set_option maxHeartbeats 4000000 in
theorem walk (a0 : Option Addr) (len0 cap0 : Nat) (z0 : List Int) (a1 a2 : Int) (w : World) (w0 : IsRow .i64 8 w a0 len0 cap0 z0) (w1 : (Lit.int .i64 a1).wf = true) (w2 : (Lit.int .i64 a2).wf = true) (u0 : len0 ≤ 1048576) (ht : Tab w) :
    Calls Tryd.prog 4 #[.slice a0 len0 cap0, .int .i64 a1, .int .i64 a2] w fun e w' => e = .returned (.bool true) ∧ Below w.heap.size w w' := by
  obtain ⟨i0, hi, hz0, hz1, hz2⟩ := info_parts Tryd.infoInt
  obtain ⟨a1l, a1h⟩ := wf_i64 w1
  obtain ⟨a2l, a2h⟩ := wf_i64 w2
  have htk := w0.take
  have htx := w0.ints
  have HROW := Nu.hid w0
  have HTX := Nu.hid htx
  have HTAB := Nu.hid ht
  have HTK := Nu.hid htk
  clear w0 htx ht htk w1 w2
  go_enter Tryd.func4, Tryd.ntmps4
  go_wp2_with (go_at_call 9; refine (awake_any _ HTAB.out).mono ?_; refine Hid.out ?_)
  refine Nu.hid ?_
  rintro e w1 ⟨rfl, hb1⟩
  have HROW1 := Nu.hid (HROW.out.later hb1)
  have HB1 := Nu.hid hb1
  clear hb1
  go_wp2_with (at_builtin; refine wpList_copy rfl _ _ 32 rfl 3 .i64 i0 8 Tryd.underlying32 hi hz0 hz1 hz2 (by decide) w1 a0 len0 cap0 z0 rfl rfl HROW1.out ?_; refine Hid.out ?_)
  refine Nu.hid ?_
  intro gb c w2 hown hgb hlt hlc hb2
  rw [← List.map_take] at hown
  have HI2 := Nu.hid (own_ints HTK.out (fun i hi => (HTX.out i hi).1) hown)
  have HB2 := Nu.hid (HB1.out.trans (hb2.mono HB1.out.size))
  clear hown hb2
  go_wp2_with (go_at_call 13; refine (line_any _ len0 c _ _ HI2.out (by omega) (HTAB.out.below HB2.out)).mono ?_; refine Hid.out ?_)
  refine Nu.hid ?_
  rintro e w3 ⟨rfl, hb3⟩
  have HB3 := Nu.hid (HB2.out.trans (hb3.mono HB2.out.size))
  clear hb3
  have HI3 := Nu.hid (HTX.out.later HB3.out)
  go_wp2_with (go_at_call 14; refine (row_any _ len0 cap0 _ _ HI3.out (by omega)).mono ?_; refine Hid.out ?_)
  refine Nu.hid ?_
  rintro e w4 ⟨rfl, hb4⟩
  have HB4 := Nu.hid (HB3.out.trans (hb4.mono HB3.out.size))
  clear hb4
  go_wp2_with (go_at_call 15; refine (text_any a1 a1l a1h _ (HTAB.out.below HB4.out)).mono ?_; refine Hid.out ?_)
  refine Nu.hid ?_
  rintro e w5 ⟨rfl, hg5⟩
  have HB5 := Nu.hid (HB4.out.trans ((Below_of_grown hg5).mono HB4.out.size))
  clear hg5
  go_wp2_with (go_at_call 16; refine (reftext_any a1 a1l a1h _).mono ?_; refine Hid.out ?_)
  refine Nu.hid ?_
  rintro e w6 ⟨rfl, hg6⟩
  have HB6 := Nu.hid (HB5.out.trans ((Below_of_grown hg6).mono HB5.out.size))
  clear hg6
  go_wp2_with (go_at_call 15; refine (text_any a1 a1l a1h _ (HTAB.out.below HB6.out)).mono ?_; refine Hid.out ?_)
  refine Nu.hid ?_
  rintro e w7 ⟨rfl, hg7⟩
  have HB7 := Nu.hid (HB6.out.trans ((Below_of_grown hg7).mono HB6.out.size))
  clear hg7
  go_wp2_with (go_at_call 15; refine (text_any a2 a2l a2h _ (HTAB.out.below HB7.out)).mono ?_; refine Hid.out ?_)
  refine Nu.hid ?_
  rintro e w8 ⟨rfl, hg8⟩
  have HB8 := Nu.hid (HB7.out.trans ((Below_of_grown hg8).mono HB7.out.size))
  clear hg8
  have HE := Nu.hid (show ((Lib.itoa a1 == Lib.itoa a2) == (a1 == a2)) = true by
    by_cases hab : a1 = a2
    · subst hab; simp
    · rw [beq_eq_false_iff_ne.2 (fun h => hab (itoa_inj h)), beq_eq_false_iff_ne.2 hab]; rfl)
  go_wp2
  go_ret
  exact ⟨by rw [HE.out]; rfl, HB8.out⟩

/-- What the walk gives, for every argument and every world that holds the tables. -/
theorem contract (H : Type) (enc : TypeId × Value → H) (W : World) (base : Nat) (args : Array Value) (ds gs : List (DataW H)) (before : List MemPlace)
    (hval : ∀ (j : Nat) t v, Tryd.f4.params[j]? = some t → args[j]? = some v → Value.okWide Tryd.prog W .any base t v)
    (hW : DataW.Whole enc Tryd.prog Tryd.f4.params.toList Rows.numsTextsSpec.vars false W args.toList ds gs before)
    (hsz : (DataW.weightsEach Tryd.prog (Tryd.f4.params.toList ++ (Rows.OpenSpec.upto Rows.numsTextsSpec).bare.plain.varTypes Tryd.prog) (ds ++ gs)).all (· ≤ reachBytes) = true)
    (hk : Rows.uptoSmall H (ds ++ gs) = true)
    (hL : laidMet Tryd.prog listed W) :
    Calls Tryd.prog 4 args W fun e W' => ∃ v, e = .returned v ∧ Rows.numsTextsSpec.post enc Tryd.prog Tryd.f4 false true false false W args v W' := by
  have hW' := hW
  obtain ⟨p, q, hA0, hV, rfl, hfz, hnd⟩ := hW
  have hA : DataW.TrodAll enc Tryd.prog W 0 (fun _ => true) true Tryd.f4.params.toList args.toList ds p := hA0
  rw [Tryd.params4] at hA hval hsz
  obtain ⟨v0, vs0, d0, ds0, p0, q0, hargs, rfl, rfl, h0, r0⟩ := trodAll_cons hA
  obtain ⟨v1, vs1, d1, ds1, p1, q1, rfl, rfl, rfl, h1, r1⟩ := trodAll_cons r0
  obtain ⟨v2, vs2, d2, ds2, p2, q2, rfl, rfl, rfl, h2, r2⟩ := trodAll_cons r1
  obtain ⟨rfl, rfl, rfl⟩ := trodAll_nil r2
  obtain rfl : args = #[v0, v1, v2] := by cases args; simp_all
  obtain ⟨rfl, rfl⟩ := trodVars_none hV
  obtain ⟨a0, len0, cap0, rfl⟩ := okWide_slice Tryd.underlying32 (hval 0 32 v0 rfl rfl)
  have k0 := h0
  have lt0 : ∀ x ∈ p0, x.block < W.heap.size := by obtain ⟨m, hm⟩ := k0; exact DataW.trod_lt m _ _ _ hm
  obtain ⟨z0, w0⟩ := IsRow.of_trod (j := 0) Tryd.underlying32 Tryd.underlying3 cellsInt bytesInt h0 hsz rfl rfl
  have u0 : len0 ≤ 1048576 := IsRow.upto hk (j := 0) Tryd.underlying32 Tryd.underlying3 cellsInt h0 rfl
  obtain ⟨a1, rfl, rfl, rfl, w1⟩ := open_int Tryd.underlying3 (hval 1 3 v1 rfl rfl) h1
  obtain ⟨a2, rfl, rfl, rfl, w2⟩ := open_int Tryd.underlying3 (hval 2 3 v2 rfl rfl) h2
  clear hA0
  refine (walk a0 len0 cap0 z0 a1 a2 W w0 w1 w2 u0 (table hL)).mono fun e W' ⟨he, bel⟩ => ?_
  subst he
  exact ⟨_, rfl, _, _, _, [], _, [], hW', trodAll_mk1 (shut_bool Tryd.underlying4 _), (trodAll_cons_mk (Below.trod laidOut (by kernel_rfl) (of_decide_eq_true (by kernel_rfl)) k0 bel lt0) (trodAll_cons_mk (shut_int Tryd.underlying3 w1) (trodAll_cons_mk (shut_int Tryd.underlying3 w2) trodAll_mk0))), rfl, bel.frame _, fun h => by cases h⟩

theorem laid_met (os : Os) : laidMet Tryd.prog Rows.numsTextsUptoRow.laid ((laidWorld os).forCall (fun _ _ => 0) ⟨#[], #[.slice none 0 0, .int .i64 0, .int .i64 0], []⟩).memory :=
  laidMet_of_run' 100 (by kernel_rfl) (by kernel_rfl)
theorem reads (os : Os) {H : Type} (enc : TypeId × Value → H) : ∃ places, DataW.whole enc Tryd.prog ((laidWorld os).forCall (fun _ _ => 0) ⟨#[], #[.slice none 0 0, .int .i64 0, .int .i64 0], []⟩).memory Tryd.f4.params.toList Rows.numsTextsSpec.vars false (#[.slice none 0 0, .int .i64 0, .int .i64 0] : Array Value).toList 8 = some ([.nil, .lit (.int .i64 0), .lit (.int .i64 0)], [], places) :=
  ⟨[], by kernel_rfl⟩

set_option maxRecDepth 100000 in
theorem lifted (os : Os) (started : os.Started) (H : Type) (enc : TypeId × Value → H) (F : Stop.Interp) :
    ReturnsInHanded {} Tryd.checked os 4 .any ((Rows.OpenSpec.upto Rows.numsTextsSpec).preRow enc Tryd.prog Tryd.f4 Rows.numsTextsUptoRow.domain false Rows.numsTextsUptoRow.laid) (((Rows.OpenSpec.upto Rows.numsTextsSpec).at F).post enc Tryd.prog Tryd.f4 false true false false) := by
  obtain ⟨places, hx⟩ := reads os enc
  refine returnsInHanded_of_row (C := Tryd.checked) (s := (Rows.OpenSpec.upto Rows.numsTextsSpec)) own started (by kernel_rfl) Tryd.func4
    (witness_row_at (enc := enc) (C := Tryd.checked) false (laidWorld os) #[.slice none 0 0, .int .i64 0, .int .i64 0] rfl (by kernel_rfl) (by kernel_rfl) (by kernel_rfl)
      (OpenSpec.preRow_of_cond 8 hx (by kernel_rfl) (fun k hk => by cases hk; kernel_rfl) (by kernel_rfl) (laid_met os))) ?_
  intro W base args ds gs before hval hW _ hcond hsz hL _ _
  exact contract H enc W base args ds gs before hval hW hsz (hcond _ rfl) hL

theorem said : Rows.NumsTextsUptoSaid :=
  OpenClaim.holds_of_cond 4 Tryd.f4 rfl rfl rfl rfl rfl rfl rfl ⟨rfl, rfl, rfl, rfl, rfl⟩ rfl rfl rfl rfl rfl (by kernel_rfl) Tryd.func4 (by kernel_rfl)
    (of_decide_eq_true (by kernel_rfl)) (by unfold Func.isWrapper; first | (rw [if_pos (by decide +kernel)]; kernel_rfl) | (rw [if_neg (by decide +kernel)]; exact ⟨rfl, rfl⟩))
    (fun os started H enc _ F => by rw [OpenClaim.pre_eq_preRow]; exact lifted os started H enc F)

theorem plain (f : FuncId) (fn : Func) (hf : Tryd.pinned.checked.prog.funcNamed "tangram/tangramlaw01.NumsTexts" = some f) (hfn : Tryd.pinned.checked.prog.funcs[f]? = some fn) :
    true = Tryd.pinned.checked.prog.looks [] ∧ ∀ (j : Nat) t, fn.params[j]? = some t → Tryd.pinned.checked.prog.wantsStandIn t = false := by
  obtain rfl : f = 4 := Option.some.inj ((show Tryd.prog.funcNamed "tangram/tangramlaw01.NumsTexts" = some 4 by kernel_rfl).symm.trans hf) |>.symm
  obtain rfl : fn = Tryd.f4 := (Option.some.inj (Tryd.func4.symm.trans hfn)).symm
  refine ⟨by kernel_rfl, fun j t ht => ?_⟩
  rw [Tryd.params4] at ht
  obtain hx : t = 32 ∨ t = 3 := by simpa using Array.mem_of_getElem? ht
  rcases hx with rfl | rfl
  · exact (show Tryd.prog.wantsStandIn 32 = false by kernel_rfl)
  · exact (show Tryd.prog.wantsStandIn 3 = false by kernel_rfl)

theorem card : Rows.NumsTextsUptoCardSaid :=
  Claim7.holds_tied_plain_at .later [] _ _ _ _ said (fun _ h => by cases h) (by kernel_rfl) (fun _ h => by cases h) numsTextsUpto_row_tie rfl ⟨rfl, rfl⟩ (by kernel_rfl) rfl plain (by kernel_rfl)


end lawTexts

theorem numsTexts_holds : Rows.NumsTextsUptoCardSaid := lawTexts.card

#print axioms numsTexts_holds
end Go.Proofs.YtcglpafbmekabaaDoor
