/-
  Proved: for every list of bytes the law CertParses answers true, and the bytes read afterwards as before.
-/
import Derived.Test.YtfjgmbimapkabaaDoorMg31
import Derived.Test.YtfjgmbimapkabaaDoorMg22
import Derived.Test.YtfjgmbimapkabaaDoorMg23
namespace Go.Proofs.YtfjgmbimapkabaaDoor
open Go.ChangeShapes Go.WideShapes Go.ChangeAt Go.RowKit

namespace lawCeP

set_option maxRecDepth 100000 in
set_option maxHeartbeats 4000000 in
theorem walk (a0 : Option Addr) (len0 cap0 : Nat) (z0 : List Int) (w : World) (w0 : IsRow .u8 1 w a0 len0 cap0 z0) (ht : Tab w) :
    Calls Tryd.prog 5 #[.slice a0 len0 cap0] w fun e w' => e = .returned (.bool true) ∧ Below w.heap.size w w' := by
  obtain ⟨i0, hi, hz0, hz1, hz2⟩ := info_parts Tryd.infoU8
  have hlen : len0 ≤ 140737488351232 := by simpa using w0.small
  have htk := w0.take
  have htx := w0.text
  obtain ⟨R, hR⟩ : ∃ R, Ce.parse (Ce.atF len0 (fun i => z0.getD i 0)) len0 = R := ⟨_, rfl⟩
  have hsm : Ce.Small R.1 := by rw [← hR]; exact Ce.parse_small htx.txt
  obtain ⟨rc, rp, rk⟩ := R
  dsimp only at hsm
  have HROW := Nu.hid w0
  have HTX := Nu.hid htx
  have HTAB := Nu.hid ht
  have HTK := Nu.hid htk
  have HSM := Nu.hid hsm
  have HR := Nu.hid hR
  clear w0 htx ht htk hsm hR
  go_enter Tryd.func5, Tryd.ntmps5
  go_wp2_with (go_at_call 11; refine (fixed17_any HTAB.out).mono ?_; rintro e w1 ⟨rfl, hb1⟩; have HB1 := Nu.hid hb1; have HRP := Nu.hid (rparse17_any (cap := cap0) (HTX.out.later hb1) (by omega)); rw [HR.out] at HRP; clear hb1; refine Hid.out ?_)
  refine Nu.hid ?_
  go_wp2_with (go_at_call 14; refine HRP.out.mono ?_; rintro e w2 ⟨hb2, v, rfl, va, ve, vs, rfl, hrw, how⟩; obtain ⟨ao, ca, rfl⟩ := row_shape hrw; obtain ⟨eo, ce, rfl, -⟩ := how.form; refine Hid.out ?_)
  refine Nu.hid ?_
  have hz := heap_alloc_new w2 (.cells #[.bool rc.pl, .slice ao rc.ar.length ca, .slice eo rc.es.length ce] 27)
  have hbz : Below w2.heap.size w2 (w2.alloc (.cells #[.bool rc.pl, .slice ao rc.ar.length ca, .slice eo rc.es.length ce] 27)) := (Below.refl _ _).alloc (Nat.le_refl _) _
  have hb2z := hb2.trans (hbz.mono hb2.size)
  have HZ := Nu.hid hz
  have HB2 := Nu.hid (HB1.out.trans (hb2z.mono HB1.out.size))
  have HSEE := Nu.hid (CertAt.later ⟨_, _, vs, rfl, hrw, how⟩ hbz : CertAt (w2.alloc (.cells #[.bool rc.pl, .slice ao rc.ar.length ca, .slice eo rc.es.length ce] 27)) _ _ rc)
  have HROW2 := Nu.hid (HROW.out.later HB2.out)
  have HSZ : Hid (w2.heap.size + 1 = (w2.alloc (.cells #[.bool rc.pl, .slice ao rc.ar.length ca, .slice eo rc.es.length ce] 27)).heap.size) := Nu.hid (by simp)
  clear hz hbz hb2z hb2 hrw how HRP
  go_wp2_with (at_builtin; refine wpList_copy rfl _ _ 31 rfl 5 .u8 i0 1 Tryd.underlying31 hi hz0 hz1 hz2 (by decide) _ a0 len0 cap0 z0 (by exact congrArg (fun k => Value.slice (some ⟨k, 0, none⟩) 0 0) HSZ.out) rfl HROW2.out ?_; refine Hid.out ?_)
  refine Nu.hid ?_
  intro gb c w3 hown hgb hlt hlc hb3'
  have hb3 : Below (w2.alloc (.cells #[.bool rc.pl, .slice ao rc.ar.length ca, .slice eo rc.es.length ce] 27)).heap.size (w2.alloc (.cells #[.bool rc.pl, .slice ao rc.ar.length ca, .slice eo rc.es.length ce] 27)) w3 := by rw [← HSZ.out]; exact hb3'
  clear hb3'
  rw [← List.map_take] at hown
  have HT3 := Nu.hid (own_text HTK.out (fun i hi => (HTX.out i hi).1) hown)
  have HZ3 := Nu.hid ((hb3.block _ (lt_of_block HZ.out)).trans HZ.out)
  have HSEE3 := Nu.hid (HSEE.out.later hb3)
  have HB3 := Nu.hid (HB2.out.trans (hb3.mono HB2.out.size))
  have HPP := Nu.hid (parse17_any (cap := c) HT3.out (fun x hx => by cases hx; exact ⟨hlt, rfl⟩) (by omega) hlc)
  rw [HR.out] at HPP
  clear hown hb3
  go_wp2_with (go_at_call 9; refine HPP.out.mono ?_; rintro e w4 ⟨hb4, v, rfl, va, ve, vs', rfl, hrw, how⟩; obtain ⟨ao', ca', rfl⟩ := row_shape hrw; obtain ⟨eo', ce', rfl, -⟩ := how.form; refine Hid.out ?_)
  refine Nu.hid ?_
  have hbz : Below w4.heap.size w4 (w4.alloc (.cells #[.bool rc.pl, .slice ao' rc.ar.length ca', .slice eo' rc.es.length ce'] 27)) := (Below.refl _ _).alloc (Nat.le_refl _) _
  have hb4z := hb4.trans (hbz.mono hb4.size)
  obtain ⟨so, se, sa, sc, hs1⟩ := (CertAt.later ⟨_, _, vs', rfl, hrw, how⟩ hbz : CertAt (w4.alloc (.cells #[.bool rc.pl, .slice ao' rc.ar.length ca', .slice eo' rc.es.length ce'] 27)) _ _ rc).sees
  obtain ⟨so', se', sa', sc', hs2⟩ := (HSEE3.out.later hb4z).sees
  have HSAME := Nu.hid (rsame17_yes hs1 hs2 HSM.out.fits)
  have hz6 := heap_alloc_new w4 (.cells #[.bool rc.pl, .slice ao' rc.ar.length ca', .slice eo' rc.es.length ce'] 27)
  obtain ⟨u0, u1, u2, -⟩ := three_cells17 hz6
  obtain ⟨v0, v1, v2, -⟩ := three_cells17 ((hb4z.block _ (lt_of_block HZ3.out)).trans HZ3.out)
  have HB5 := Nu.hid (HB3.out.trans (hb4z.mono HB3.out.size))
  clear hbz hb4 hb4z hs1 hs2 hz6 hrw how HPP
  go_wp2_with (go_at_call 15; refine HSAME.out.mono ?_; rintro e w5 ⟨rfl, hb5⟩)
  go_ret
  exact ⟨rfl, HB5.out.trans (hb5.mono HB5.out.size)⟩
set_option maxRecDepth 100000 in
/-- What the walk gives, for every argument and every world that holds the tables. -/
theorem contract (H : Type) (enc : TypeId × Value → H) (W : World) (base : Nat) (args : Array Value) (ds gs : List (DataW H)) (before : List MemPlace)
    (hval : ∀ (j : Nat) t v, Tryd.f5.params[j]? = some t → args[j]? = some v → Value.okWide Tryd.prog W .any base t v)
    (hW : DataW.Whole enc Tryd.prog Tryd.f5.params.toList Rows.certParsesSpec.vars false W args.toList ds gs before)
    (hsz : (DataW.weightsEach Tryd.prog (Tryd.f5.params.toList ++ (OpenSpec.ofChange Rows.certParsesSpec).bare.plain.varTypes Tryd.prog) (ds ++ gs)).all (· ≤ reachBytes) = true)
    (hL : laidMet Tryd.prog listed W) :
    Calls Tryd.prog 5 args W fun e W' => ∃ v, e = .returned v ∧ Rows.certParsesSpec.post enc Tryd.prog Tryd.f5 false true false false W args v W' := by
  have hW' := hW
  obtain ⟨p, q, hA0, hV, rfl, hfz, hnd⟩ := hW
  have hA : DataW.TrodAll enc Tryd.prog W 0 (fun _ => true) true Tryd.f5.params.toList args.toList ds p := hA0
  rw [Tryd.params5] at hA hval hsz
  obtain ⟨v0, vs0, d0, ds0, p0, q0, hargs, rfl, rfl, h0, r0⟩ := trodAll_cons hA
  obtain ⟨rfl, rfl, rfl⟩ := trodAll_nil r0
  obtain rfl : args = #[v0] := by cases args; simp_all
  obtain ⟨rfl, rfl⟩ := trodVars_none hV
  obtain ⟨a0, len0, cap0, rfl⟩ := okWide_slice Tryd.underlying31 (hval 0 31 v0 rfl rfl)
  have k0 := h0
  have lt0 : ∀ x ∈ p0, x.block < W.heap.size := by obtain ⟨m, hm⟩ := k0; exact DataW.trod_lt m _ _ _ hm
  obtain ⟨z0, w0⟩ := IsRow.of_trod (j := 0) Tryd.underlying31 Tryd.underlying5 cellsU8 bytesU8 h0 hsz rfl rfl
  clear hA0
  refine (walk a0 len0 cap0 z0 W w0 (table hL)).mono fun e W' ⟨he, bel⟩ => ?_
  subst he
  exact ⟨_, rfl, _, _, _, [], _, [], hW', trodAll_mk1 (shut_bool Tryd.underlying4 _), (trodAll_cons_mk (Below.trod laidOut (by kernel_rfl) (of_decide_eq_true (by kernel_rfl)) k0 bel lt0) trodAll_mk0), rfl, bel.frame _, fun h => by cases h⟩

theorem laid_met (os : Os) : laidMet Tryd.prog Rows.certParsesRow.laid ((laidWorld os).forCall (fun _ _ => 0) ⟨#[], #[.slice none 0 0], []⟩).memory :=
  laidMet_of_run' 100 (by kernel_rfl) (by kernel_rfl)
theorem reads (os : Os) {H : Type} (enc : TypeId × Value → H) : ∃ places, DataW.whole enc Tryd.prog ((laidWorld os).forCall (fun _ _ => 0) ⟨#[], #[.slice none 0 0], []⟩).memory Tryd.f5.params.toList Rows.certParsesSpec.vars false (#[.slice none 0 0] : Array Value).toList 8 = some ([.nil], [], places) :=
  ⟨[], by kernel_rfl⟩

set_option maxRecDepth 100000 in
theorem lifted (os : Os) (started : os.Started) (H : Type) (enc : TypeId × Value → H) (F : Stop.Interp) :
    ReturnsInHanded {} Tryd.checked os 5 .any ((OpenSpec.ofChange Rows.certParsesSpec).preRow enc Tryd.prog Tryd.f5 Rows.certParsesRow.domain false Rows.certParsesRow.laid) (((OpenSpec.ofChange Rows.certParsesSpec).at F).post enc Tryd.prog Tryd.f5 false true false false) := by
  obtain ⟨places, hx⟩ := reads os enc
  refine returnsInHanded_of_row (C := Tryd.checked) (s := (OpenSpec.ofChange Rows.certParsesSpec)) own started (by kernel_rfl) Tryd.func5
    (witness_row_at (enc := enc) (C := Tryd.checked) false (laidWorld os) #[.slice none 0 0] rfl (by kernel_rfl) (by kernel_rfl) (by kernel_rfl)
      (OpenSpec.preRow_of_cond 8 hx (by kernel_rfl) (fun k hk => by cases hk) (by kernel_rfl) (laid_met os))) ?_
  intro W base args ds gs before hval hW _ hcond hsz hL _ _
  exact contract H enc W base args ds gs before hval hW hsz hL

theorem said : Rows.CertParsesSaid :=
  OpenClaim.holds_of_cond 5 Tryd.f5 rfl rfl rfl rfl rfl rfl rfl ⟨rfl, rfl, rfl, rfl, rfl⟩ rfl rfl rfl rfl rfl (by kernel_rfl) Tryd.func5 (by kernel_rfl)
    (of_decide_eq_true (by kernel_rfl)) (by unfold Func.isWrapper; first | (rw [if_pos (by decide +kernel)]; kernel_rfl) | (rw [if_neg (by decide +kernel)]; exact ⟨rfl, rfl⟩))
    (fun os started H enc _ F => by rw [OpenClaim.pre_eq_preRow]; exact lifted os started H enc F)

theorem plain (f : FuncId) (fn : Func) (hf : Tryd.pinned.checked.prog.funcNamed "tangram/tangramlaw17.CertParses" = some f) (hfn : Tryd.pinned.checked.prog.funcs[f]? = some fn) :
    true = Tryd.pinned.checked.prog.looks [] ∧ ∀ (j : Nat) t, fn.params[j]? = some t → Tryd.pinned.checked.prog.wantsStandIn t = false := by
  obtain rfl : f = 5 := Option.some.inj ((show Tryd.prog.funcNamed "tangram/tangramlaw17.CertParses" = some 5 by kernel_rfl).symm.trans hf) |>.symm
  obtain rfl : fn = Tryd.f5 := (Option.some.inj (Tryd.func5.symm.trans hfn)).symm
  refine ⟨by kernel_rfl, fun j t ht => ?_⟩
  rw [Tryd.params5] at ht
  obtain rfl : t = 31 := by simpa using Array.mem_of_getElem? ht
  exact (show Tryd.prog.wantsStandIn 31 = false by kernel_rfl)

theorem card : Rows.CertParsesCardSaid :=
  Claim7.holds_tied_plain_at .later [] _ _ _ _ said (fun _ h => by cases h) (by kernel_rfl) (fun _ h => by cases h) certParses_row_tie rfl ⟨rfl, rfl⟩ (by kernel_rfl) rfl plain (by kernel_rfl)

end lawCeP

theorem certParses_holds : Rows.CertParsesCardSaid := lawCeP.card

#print axioms certParses_holds
end Go.Proofs.YtfjgmbimapkabaaDoor
