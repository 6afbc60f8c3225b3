/-
  Proved: for every list of bytes the law NumsScans answers true, and the bytes read afterwards as before.
-/
import Derived.Test.YtcglpafbmekabaaDoorBase
namespace Go.Proofs.YtcglpafbmekabaaDoor
open Go.ChangeShapes Go.WideShapes Go.ChangeAt Go.RowKit

theorem Tryd.infoU8 : (Tryd.prog.info? 5).map (fun i => (i.zero, i.size, i.bytes)) = some (some (.int .u8 0), 1, 1) := by kernel_rfl

namespace lawScans

set_option maxRecDepth 100000 in
set_option maxHeartbeats 4000000 in
theorem walk (a0 : Option Addr) (len0 cap0 : Nat) (z0 : List Int) (w : World) (w0 : IsRow .u8 1 w a0 len0 cap0 z0) (ht : Tab w) :
    Calls Tryd.prog 3 #[.slice a0 len0 cap0] w fun e w' => e = .returned (.bool true) ∧ Below w.heap.size w w' := by
  obtain ⟨i0, hi, hz0, hz1, hz2⟩ := info_parts Tryd.infoU8
  have hlen : len0 ≤ 140737488351232 := by simpa using w0.small
  have htk := w0.take
  have htx := w0.text
  have HROW := Nu.hid w0
  have HTX := Nu.hid htx
  have HTAB := Nu.hid ht
  have HTK := Nu.hid htk
  clear w0 htx ht htk
  go_enter Tryd.func3, Tryd.ntmps3
  go_wp2_with (go_at_call 9; refine (awake_any _ HTAB.out).mono ?_; refine Hid.out ?_)
  refine Nu.hid ?_
  rintro e w1 ⟨rfl, hb1⟩
  have HROW1 := Nu.hid (HROW.out.later hb1)
  have HB1 := Nu.hid hb1
  clear hb1
  go_wp2_with (at_builtin; refine wpList_copy rfl _ _ 22 rfl 5 .u8 i0 1 Tryd.underlying22 hi hz0 hz1 hz2 (by decide) w1 a0 len0 cap0 z0 rfl rfl HROW1.out ?_; refine Hid.out ?_)
  refine Nu.hid ?_
  intro gb c w2 hown hgb hlt hlc hb2
  rw [← List.map_take] at hown
  have HT2 := Nu.hid (own_text HTK.out (fun i hi => (HTX.out i hi).1) hown)
  have HB2 := Nu.hid (HB1.out.trans (hb2.mono HB1.out.size))
  clear hown hb2
  go_wp2_with (go_at_call 10; refine (scan_any _ len0 c _ _ HT2.out (by intro x hx; cases hx; exact hlt) (by unfold maxLen; omega) hlc).mono ?_; refine Hid.out ?_)
  refine Nu.hid ?_
  rintro e w3 ⟨hb3, hx⟩
  have HB3 := Nu.hid (HB2.out.trans (hb3.mono HB2.out.size))
  clear hb3
  have HT3 := Nu.hid (HTX.out.later HB3.out)
  rcases hx with ⟨hn, rfl⟩ | ⟨hn, x, hs, rfl⟩ | ⟨hn, ts, T, hs, rfl, hT, hrow⟩
  · go_wp2_with (go_at_call 11; refine (ref_any _ len0 cap0 _ _ HT3.out (by unfold maxLen; omega)).mono ?_; refine Hid.out ?_)
    refine Nu.hid ?_
    rintro e w4 ⟨hb4, hy⟩
    have HB4 := Nu.hid (HB3.out.trans (hb4.mono HB3.out.size))
    clear hb4
    rcases hy with ⟨_, rfl⟩ | ⟨hn', _⟩ | ⟨hn', _⟩
    rotate_left
    · omega
    · omega
    go_wp2_with (go_at_call 12; refine (same_any _ _ [] _ (.inl ⟨rfl, rfl⟩) (.inl ⟨rfl, rfl⟩) (by decide)).mono ?_; rintro e w' ⟨rfl, m, rfl⟩)
    go_ret
    exact ⟨by simp, below_drewN HB4.out m⟩
  · go_wp2_with (go_at_call 11; refine (ref_any _ len0 cap0 _ _ HT3.out (by unfold maxLen; omega)).mono ?_; refine Hid.out ?_)
    refine Nu.hid ?_
    rintro e w4 ⟨hb4, hy⟩
    have HB4 := Nu.hid (HB3.out.trans (hb4.mono HB3.out.size))
    clear hb4
    rcases hy with ⟨hn', rfl⟩ | ⟨_, y, hs', rfl⟩ | ⟨_, ts, v, hs', _⟩
    · omega
    rotate_left
    · rw [hs] at hs'; cases hs'
    rw [hs] at hs'
    cases hs'
    clear hs
    go_wp2_with (go_at_call 12; refine (same_any _ _ [] _ (.inl ⟨rfl, rfl⟩) (.inl ⟨rfl, rfl⟩) (by decide)).mono ?_; rintro e w' ⟨rfl, m, rfl⟩)
    go_ret
    exact ⟨by simp, below_drewN HB4.out m⟩
  · have hlen' := Nu.scan_length hs
    go_wp2_with (go_at_call 11; refine (ref_any _ len0 cap0 _ _ HT3.out (by unfold maxLen; omega)).mono ?_; refine Hid.out ?_)
    refine Nu.hid ?_
    rintro e w4 ⟨hb4, hy⟩
    have HB4 := Nu.hid (HB3.out.trans (hb4.mono HB3.out.size))
    rcases hy with ⟨hn', rfl⟩ | ⟨_, y, hs', _⟩ | ⟨_, us, v, hs', rfl, hv⟩
    · omega
    · rw [hs] at hs'; cases hs'
    rw [hs] at hs'
    cases hs'
    have HA := Nu.hid (hrow.below hb4).slice
    have HV := Nu.hid hv.slice
    clear hb4 hv hs hrow
    go_wp2_with (go_at_call 12; refine (same_any _ _ ts _ HA.out HV.out (by omega)).mono ?_; rintro e w' ⟨rfl, m, rfl⟩)
    go_ret
    exact ⟨by simp, below_drewN HB4.out m⟩

/-- What the walk gives, for every argument and every world that holds the tables. -/
theorem contract (H : Type) (enc : TypeId × Value → H) (W : World) (base : Nat) (args : Array Value) (ds gs : List (DataW H)) (before : List MemPlace)
    (hval : ∀ (j : Nat) t v, Tryd.f3.params[j]? = some t → args[j]? = some v → Value.okWide Tryd.prog W .any base t v)
    (hW : DataW.Whole enc Tryd.prog Tryd.f3.params.toList Rows.numsScansSpec.vars false W args.toList ds gs before)
    (hsz : (DataW.weightsEach Tryd.prog (Tryd.f3.params.toList ++ (OpenSpec.ofChange Rows.numsScansSpec).bare.plain.varTypes Tryd.prog) (ds ++ gs)).all (· ≤ reachBytes) = true)
    (hL : laidMet Tryd.prog listed W) :
    Calls Tryd.prog 3 args W fun e W' => ∃ v, e = .returned v ∧ Rows.numsScansSpec.post enc Tryd.prog Tryd.f3 false true false false W args v W' := by
  have hW' := hW
  obtain ⟨p, q, hA0, hV, rfl, hfz, hnd⟩ := hW
  have hA : DataW.TrodAll enc Tryd.prog W 0 (fun _ => true) true Tryd.f3.params.toList args.toList ds p := hA0
  rw [Tryd.params3] at hA hval hsz
  obtain ⟨v0, vs0, d0, ds0, p0, q0, hargs, rfl, rfl, h0, r0⟩ := trodAll_cons hA
  obtain ⟨rfl, rfl, rfl⟩ := trodAll_nil r0
  obtain rfl : args = #[v0] := by cases args; simp_all
  obtain ⟨rfl, rfl⟩ := trodVars_none hV
  obtain ⟨a0, len0, cap0, rfl⟩ := okWide_slice Tryd.underlying22 (hval 0 22 v0 rfl rfl)
  have k0 := h0
  have lt0 : ∀ x ∈ p0, x.block < W.heap.size := by obtain ⟨m, hm⟩ := k0; exact DataW.trod_lt m _ _ _ hm
  obtain ⟨z0, w0⟩ := IsRow.of_trod (j := 0) Tryd.underlying22 Tryd.underlying5 cellsU8 bytesU8 h0 hsz rfl rfl
  clear hA0
  refine (walk a0 len0 cap0 z0 W w0 (table hL)).mono fun e W' ⟨he, bel⟩ => ?_
  subst he
  exact ⟨_, rfl, _, _, _, [], _, [], hW', trodAll_mk1 (shut_bool Tryd.underlying4 _), (trodAll_cons_mk (Below.trod laidOut (by kernel_rfl) (of_decide_eq_true (by kernel_rfl)) k0 bel lt0) trodAll_mk0), rfl, bel.frame _, fun h => by cases h⟩

theorem laid_met (os : Os) : laidMet Tryd.prog Rows.numsScansRow.laid ((laidWorld os).forCall (fun _ _ => 0) ⟨#[], #[.slice none 0 0], []⟩).memory :=
  laidMet_of_run' 100 (by kernel_rfl) (by kernel_rfl)
theorem reads (os : Os) {H : Type} (enc : TypeId × Value → H) : ∃ places, DataW.whole enc Tryd.prog ((laidWorld os).forCall (fun _ _ => 0) ⟨#[], #[.slice none 0 0], []⟩).memory Tryd.f3.params.toList Rows.numsScansSpec.vars false (#[.slice none 0 0] : Array Value).toList 8 = some ([.nil], [], places) :=
  ⟨[], by kernel_rfl⟩

set_option maxRecDepth 100000 in
theorem lifted (os : Os) (started : os.Started) (H : Type) (enc : TypeId × Value → H) (F : Stop.Interp) :
    ReturnsInHanded {} Tryd.checked os 3 .any ((OpenSpec.ofChange Rows.numsScansSpec).preRow enc Tryd.prog Tryd.f3 Rows.numsScansRow.domain false Rows.numsScansRow.laid) (((OpenSpec.ofChange Rows.numsScansSpec).at F).post enc Tryd.prog Tryd.f3 false true false false) := by
  obtain ⟨places, hx⟩ := reads os enc
  refine returnsInHanded_of_row (C := Tryd.checked) (s := (OpenSpec.ofChange Rows.numsScansSpec)) own started (by kernel_rfl) Tryd.func3
    (witness_row_at (enc := enc) (C := Tryd.checked) false (laidWorld os) #[.slice none 0 0] rfl (by kernel_rfl) (by kernel_rfl) (by kernel_rfl)
      (OpenSpec.preRow_of_cond 8 hx (by kernel_rfl) (fun k hk => by cases hk) (by kernel_rfl) (laid_met os))) ?_
  intro W base args ds gs before hval hW _ hcond hsz hL _ _
  exact contract H enc W base args ds gs before hval hW hsz hL

theorem said : Rows.NumsScansSaid :=
  OpenClaim.holds_of_cond 3 Tryd.f3 rfl rfl rfl rfl rfl rfl rfl ⟨rfl, rfl, rfl, rfl, rfl⟩ rfl rfl rfl rfl rfl (by kernel_rfl) Tryd.func3 (by kernel_rfl)
    (of_decide_eq_true (by kernel_rfl)) (by unfold Func.isWrapper; first | (rw [if_pos (by decide +kernel)]; kernel_rfl) | (rw [if_neg (by decide +kernel)]; exact ⟨rfl, rfl⟩))
    (fun os started H enc _ F => by rw [OpenClaim.pre_eq_preRow]; exact lifted os started H enc F)

theorem plain (f : FuncId) (fn : Func) (hf : Tryd.pinned.checked.prog.funcNamed "tangram/tangramlaw01.NumsScans" = some f) (hfn : Tryd.pinned.checked.prog.funcs[f]? = some fn) :
    true = Tryd.pinned.checked.prog.looks [] ∧ ∀ (j : Nat) t, fn.params[j]? = some t → Tryd.pinned.checked.prog.wantsStandIn t = false := by
  obtain rfl : f = 3 := Option.some.inj ((show Tryd.prog.funcNamed "tangram/tangramlaw01.NumsScans" = some 3 by kernel_rfl).symm.trans hf) |>.symm
  obtain rfl : fn = Tryd.f3 := (Option.some.inj (Tryd.func3.symm.trans hfn)).symm
  refine ⟨by kernel_rfl, fun j t ht => ?_⟩
  rw [Tryd.params3] at ht
  obtain rfl : t = 22 := by simpa using Array.mem_of_getElem? ht
  exact (show Tryd.prog.wantsStandIn 22 = false by kernel_rfl)

theorem card : Rows.NumsScansCardSaid :=
  Claim7.holds_tied_plain_at .later [] _ _ _ _ said (fun _ h => by cases h) (by kernel_rfl) (fun _ h => by cases h) numsScans_row_tie rfl ⟨rfl, rfl⟩ (by kernel_rfl) rfl plain (by kernel_rfl)

end lawScans

theorem numsScans_holds : Rows.NumsScansCardSaid := lawScans.card

#print axioms numsScans_holds
end Go.Proofs.YtcglpafbmekabaaDoor
