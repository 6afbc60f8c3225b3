/-
  Proved: for every certificate of bulk at most 1048576 the law CertPrints answers true, and the certificate reads afterwards as before.
-/
import Derived.Test.YtfjgmbimapkabaaDoorCeLw
namespace Go.Proofs.YtfjgmbimapkabaaDoor
open Go.ChangeShapes Go.WideShapes Go.ChangeAt Go.RowKit

namespace lawCePr

set_option maxRecDepth 100000 in
set_option maxHeartbeats 4000000 in
theorem walk (pl : Bool) (ao : Option Addr) (ca : Nat) (ls : List (List Int)) (eo : Option Addr) (ce : Nat) (es : List (Int × Int)) (w : World) (w0 : CertIn w pl ao ls eo ce es) (ht : Tab w) :
    Calls Tryd.prog 4 #[.agg #[.bool pl, .slice ao ls.length ca, .slice eo es.length ce]] w fun e w' => e = .returned (.bool true) ∧ Below w.heap.size w w' := by
  obtain ⟨L, k, hpr⟩ := Ce.pr_is ⟨pl, ls, es⟩
  have HPR := Nu.hid hpr
  have HFP := Nu.hid w0.fitsP
  have HF := Nu.hid w0.fits
  have HC := Nu.hid w0
  have HTB := Nu.hid (tab_below ht)
  have hz := heap_alloc_new w (.cells #[.bool pl, .slice ao ls.length ca, .slice eo es.length ce] 27)
  have hbz : Below w.heap.size w (w.alloc (.cells #[.bool pl, .slice ao ls.length ca, .slice eo es.length ce] 27)) := (Below.refl _ _).alloc (Nat.le_refl _) _
  have HZ := Nu.hid hz
  have HB := Nu.hid hbz
  obtain ⟨n, hn⟩ : ∃ n, ls.length = n := ⟨_, rfl⟩
  obtain ⟨m, hm⟩ : ∃ m, es.length = m := ⟨_, rfl⟩
  have HCP : Hid (∀ W, Below w.heap.size w W → Calls Tryd.prog 13 #[.agg #[.bool pl, .slice ao n ca, .slice eo m ce]] W fun e w' => Below W.heap.size W w' ∧ ∃ v, e = .returned v ∧ CertAt w' W.heap.size v ⟨pl, ls, es⟩) := fun W hW => by rw [← hn, ← hm]; exact (HC.out.later hW).copy
  have HRP : Hid (∀ W, Below w.heap.size w W → Calls Tryd.prog 12 #[.agg #[.bool pl, .slice ao n ca, .slice eo m ce]] W fun e w' => e = .returned (.tuple #[.string ⟨L.toArray⟩, .int .i64 k]) ∧ Below W.heap.size W w') := fun W hW => by
    rw [← hn, ← hm]
    exact (rprint17_any (HC.out.later hW).sees HF.out).mono fun e w' h => ⟨HPR.out.one e h.1, h.2⟩
  rw [hn, hm] at HZ HB ⊢
  clear w0 ht hpr hz hbz hn hm
  go_enter Tryd.func4, Tryd.ntmps4
  go_wp2_with (go_at_call 11; refine (fixed17_any (HTB.out _ HB.out)).mono ?_; rintro e w1 ⟨rfl, hb1⟩; have hz1 := (hb1.block _ (lt_of_block HZ.out)).trans HZ.out; have HB1 := Nu.hid (HB.out.trans (hb1.mono HB.out.size)); have c0 := (three_cells17 hz1).1; have c1 := (three_cells17 hz1).2.1; have c2 := (three_cells17 hz1).2.2.1; have HZ1 := Nu.hid hz1; clear hb1 hz1; refine Hid.out ?_)
  refine Nu.hid ?_
  go_wp2_with (go_at_call 12; refine (HRP.out _ HB1.out).mono ?_; rintro e w2 ⟨rfl, hb2⟩; have hz2 := (hb2.block _ (lt_of_block HZ1.out)).trans HZ1.out; have HB2 := Nu.hid (HB1.out.trans (hb2.mono HB1.out.size)); have d0 := (three_cells17 hz2).1; have d1 := (three_cells17 hz2).2.1; have d2 := (three_cells17 hz2).2.2.1; clear hb2 hz2; refine Hid.out ?_)
  refine Nu.hid ?_
  clear c0 c1 c2
  go_wp2_with (go_at_call 13; refine (HCP.out _ HB2.out).mono ?_; rintro e w3 ⟨hb3, v, rfl, hv⟩; have HB3 := Nu.hid (HB2.out.trans (hb3.mono HB2.out.size)); have HV := Nu.hid hv; clear hb3 hv; refine Hid.out ?_)
  refine Nu.hid ?_
  go_wp2_with (go_at_call 10; refine (HV.out.print HFP.out (HTB.out _ HB3.out) HPR.out).mono ?_; rintro e w4 ⟨rfl, hb4⟩; have HB4 := Nu.hid (HB3.out.trans (hb4.mono HB3.out.size)); clear hb4; refine Hid.out ?_)
  refine Nu.hid ?_
  go_wp2
  go_ret
  exact ⟨by simp, HB4.out⟩
set_option maxRecDepth 100000 in
/-- What the walk gives, for every argument and every world that holds the tables. -/
theorem contract (H : Type) (enc : TypeId × Value → H) (W : World) (base : Nat) (args : Array Value) (ds gs : List (DataW H)) (before : List MemPlace)
    (hval : ∀ (j : Nat) t v, Tryd.f4.params[j]? = some t → args[j]? = some v → Value.okWide Tryd.prog W .any base t v)
    (hW : DataW.Whole enc Tryd.prog Tryd.f4.params.toList Rows.certPrintsSpec.vars false W args.toList ds gs before)
    (hsz : (DataW.weightsEach Tryd.prog (Tryd.f4.params.toList ++ (Rows.OpenSpec.upto Rows.certPrintsSpec).bare.plain.varTypes Tryd.prog) (ds ++ gs)).all (· ≤ reachBytes) = true)
    (hk : Rows.uptoSmall H (ds ++ gs) = true)
    (hL : laidMet Tryd.prog listed W) :
    Calls Tryd.prog 4 args W fun e W' => ∃ v, e = .returned v ∧ Rows.certPrintsSpec.post enc Tryd.prog Tryd.f4 false true false false W args v W' := by
  have hW' := hW
  obtain ⟨p, q, hA0, hV, rfl, hfz, hnd⟩ := hW
  have hA : DataW.TrodAll enc Tryd.prog W 0 (fun _ => true) true Tryd.f4.params.toList args.toList ds p := hA0
  rw [Tryd.params4] at hA hval hsz
  obtain ⟨v0, vs0, d0, ds0, p0, q0, hargs, rfl, rfl, h0, r0⟩ := trodAll_cons hA
  obtain ⟨rfl, rfl, rfl⟩ := trodAll_nil r0
  obtain rfl : args = #[v0] := by cases args; simp_all
  obtain ⟨rfl, rfl⟩ := trodVars_none hV
  have k0 := h0
  have lt0 : ∀ x ∈ p0, x.block < W.heap.size := by obtain ⟨m, hm⟩ := k0; exact DataW.trod_lt m _ _ _ hm
  obtain ⟨p0, a0, c0, l0, b0, e0, s0, rfl, w0⟩ := cert_of_trod (j := 0) (hval 0 27 v0 rfl rfl) h0 hk rfl
  clear hA0
  refine (walk p0 a0 c0 l0 b0 e0 s0 W w0 (table hL)).mono fun e W' ⟨he, bel⟩ => ?_
  subst he
  exact ⟨_, rfl, _, _, _, [], _, [], hW', trodAll_mk1 (shut_bool Tryd.underlying4 _), (trodAll_cons_mk (Below.trod laidOut (by kernel_rfl) (of_decide_eq_true (by kernel_rfl)) k0 bel lt0) trodAll_mk0), rfl, bel.frame _, fun h => by cases h⟩

theorem laid_met (os : Os) : laidMet Tryd.prog Rows.certPrintsUptoRow.laid ((laidWorld os).forCall (fun _ _ => 0) ⟨#[], #[.agg #[.bool false, .slice none 0 0, .slice none 0 0]], []⟩).memory :=
  laidMet_of_run' 100 (by kernel_rfl) (by kernel_rfl)
theorem reads (os : Os) {H : Type} (enc : TypeId × Value → H) : ∃ places, DataW.whole enc Tryd.prog ((laidWorld os).forCall (fun _ _ => 0) ⟨#[], #[.agg #[.bool false, .slice none 0 0, .slice none 0 0]], []⟩).memory Tryd.f4.params.toList Rows.certPrintsSpec.vars false (#[.agg #[.bool false, .slice none 0 0, .slice none 0 0]] : Array Value).toList 8 = some ([.agg [.lit (.bool false), .nil, .nil]], [], places) :=
  ⟨[], by kernel_rfl⟩

set_option maxRecDepth 100000 in
theorem lifted (os : Os) (started : os.Started) (H : Type) (enc : TypeId × Value → H) (F : Stop.Interp) :
    ReturnsInHanded {} Tryd.checked os 4 .any ((Rows.OpenSpec.upto Rows.certPrintsSpec).preRow enc Tryd.prog Tryd.f4 Rows.certPrintsUptoRow.domain false Rows.certPrintsUptoRow.laid) (((Rows.OpenSpec.upto Rows.certPrintsSpec).at F).post enc Tryd.prog Tryd.f4 false true false false) := by
  obtain ⟨places, hx⟩ := reads os enc
  refine returnsInHanded_of_row (C := Tryd.checked) (s := (Rows.OpenSpec.upto Rows.certPrintsSpec)) own started (by kernel_rfl) Tryd.func4
    (witness_row_at (enc := enc) (C := Tryd.checked) false (laidWorld os) #[.agg #[.bool false, .slice none 0 0, .slice none 0 0]] rfl (by kernel_rfl) (by kernel_rfl) (by kernel_rfl)
      (OpenSpec.preRow_of_cond 8 hx (by kernel_rfl) (fun k hk => by cases hk; kernel_rfl) (by kernel_rfl) (laid_met os))) ?_
  intro W base args ds gs before hval hW _ hcond hsz hL _ _
  exact contract H enc W base args ds gs before hval hW hsz (hcond _ rfl) hL

theorem said : Rows.CertPrintsUptoSaid :=
  OpenClaim.holds_of_cond 4 Tryd.f4 rfl rfl rfl rfl rfl rfl rfl ⟨rfl, rfl, rfl, rfl, rfl⟩ rfl rfl rfl rfl rfl (by kernel_rfl) Tryd.func4 (by kernel_rfl)
    (of_decide_eq_true (by kernel_rfl)) (by unfold Func.isWrapper; first | (rw [if_pos (by decide +kernel)]; kernel_rfl) | (rw [if_neg (by decide +kernel)]; exact ⟨rfl, rfl⟩))
    (fun os started H enc _ F => by rw [OpenClaim.pre_eq_preRow]; exact lifted os started H enc F)

theorem plain (f : FuncId) (fn : Func) (hf : Tryd.pinned.checked.prog.funcNamed "tangram/tangramlaw17.CertPrints" = some f) (hfn : Tryd.pinned.checked.prog.funcs[f]? = some fn) :
    true = Tryd.pinned.checked.prog.looks [] ∧ ∀ (j : Nat) t, fn.params[j]? = some t → Tryd.pinned.checked.prog.wantsStandIn t = false := by
  obtain rfl : f = 4 := Option.some.inj ((show Tryd.prog.funcNamed "tangram/tangramlaw17.CertPrints" = some 4 by kernel_rfl).symm.trans hf) |>.symm
  obtain rfl : fn = Tryd.f4 := (Option.some.inj (Tryd.func4.symm.trans hfn)).symm
  refine ⟨by kernel_rfl, fun j t ht => ?_⟩
  rw [Tryd.params4] at ht
  obtain rfl : t = 27 := by simpa using Array.mem_of_getElem? ht
  exact (show Tryd.prog.wantsStandIn 27 = false by kernel_rfl)

theorem card : Rows.CertPrintsUptoCardSaid :=
  Claim7.holds_tied_plain_at .later [] _ _ _ _ said (fun _ h => by cases h) (by kernel_rfl) (fun _ h => by cases h) certPrintsUpto_row_tie rfl ⟨rfl, rfl⟩ (by kernel_rfl) rfl plain (by kernel_rfl)

end lawCePr

theorem certPrintsUpto_holds : Rows.CertPrintsUptoCardSaid := lawCePr.card

#print axioms certPrintsUpto_holds
end Go.Proofs.YtfjgmbimapkabaaDoor
