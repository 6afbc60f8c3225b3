/-
  Proved: for every two certificates of bulk at most 1048576 the law CertUnlike answers true, and the certificates read afterwards as before.
-/
import Derived.Test.YtfjgmbimapkabaaDoorCeLw
import Derived.Test.YtfjgmbimapkabaaDoorCeSN
namespace Go.Proofs.YtfjgmbimapkabaaDoor
open Go.ChangeShapes Go.WideShapes Go.ChangeAt Go.RowKit

namespace lawCeU

/-- Two prints, told ahead. -/
theorem pr_two (c d : Ce.Cert) : ∃ L k L' k', Ce.Pr c L k ∧ Ce.Pr d L' k' ∧ (k ≠ k' → c ≠ d) ∧ (k = 0 → k' = 0 → (L = L' ↔ c = d)) := by
  by_cases h : c = d
  · subst h
    obtain ⟨L, k, hp⟩ := Ce.pr_is c
    exact ⟨L, k, L, k, hp, hp, fun h => absurd rfl h, fun _ _ => by simp⟩
  · obtain ⟨L, k, hp⟩ := Ce.pr_is c
    obtain ⟨L', k', hp'⟩ := Ce.pr_is d
    refine ⟨L, k, L', k', hp, hp', fun _ => h, fun h0 h0' => ⟨fun hl => ?_, fun e => absurd e h⟩⟩
    obtain ⟨g1, g2, g3⟩ := hp.yes h0
    obtain ⟨g1', g2', -⟩ := hp'.yes h0'
    exact Ce.text_inj g1 g1' (by rw [← g2]; exact g3) (by rw [← g2, ← g2', hl])

set_option maxRecDepth 100000 in
set_option maxHeartbeats 4000000 in
theorem walk (pl : Bool) (ao : Option Addr) (ca : Nat) (ls : List (List Int)) (eo : Option Addr) (ce : Nat) (es : List (Int × Int)) (pl' : Bool) (ao' : Option Addr) (ca' : Nat) (ls' : List (List Int)) (eo' : Option Addr) (ce' : Nat) (es' : List (Int × Int)) (w : World) (w0 : CertIn w pl ao ls eo ce es) (w1 : CertIn w pl' ao' ls' eo' ce' es') (ht : Tab w) :
    Calls Tryd.prog 8 #[.agg #[.bool pl, .slice ao ls.length ca, .slice eo es.length ce], .agg #[.bool pl', .slice ao' ls'.length ca', .slice eo' es'.length ce']] w fun e w' => e = .returned (.bool true) ∧ Below w.heap.size w w' := by
  obtain ⟨L, k, L', k', hpr, hpr', hk, htx⟩ := pr_two ⟨pl, ls, es⟩ ⟨pl', ls', es'⟩
  have HPR := Nu.hid hpr
  have HPR' := Nu.hid hpr'
  have HK := Nu.hid hk
  have HX := Nu.hid htx
  have HFP := Nu.hid w0.fitsP
  have HFP' := Nu.hid w1.fitsP
  have HF := Nu.hid w0.fits
  have HC := Nu.hid w0
  have HC' := Nu.hid w1
  have HTB := Nu.hid (tab_below ht)
  have HS := Nu.hid (TwoC.start (w := w) (x := .bool pl) (y := .slice ao ls.length ca) (z := .slice eo es.length ce) (x' := .bool pl') (y' := .slice ao' ls'.length ca') (z' := .slice eo' es'.length ce'))
  obtain ⟨n, hn⟩ : ∃ n, ls.length = n := ⟨_, rfl⟩
  obtain ⟨m, hm⟩ : ∃ m, es.length = m := ⟨_, rfl⟩
  obtain ⟨n', hn'⟩ : ∃ n, ls'.length = n := ⟨_, rfl⟩
  obtain ⟨m', hm'⟩ : ∃ m, es'.length = m := ⟨_, rfl⟩
  have HCP : Hid (∀ W, Below w.heap.size w W → Calls Tryd.prog 13 #[.agg #[.bool pl, .slice ao n ca, .slice eo m ce]] W fun e w' => Below W.heap.size W w' ∧ ∃ v, e = .returned v ∧ CertAt w' W.heap.size v ⟨pl, ls, es⟩) := fun W hW => by rw [← hn, ← hm]; exact (HC.out.later hW).copy
  have HCP' : Hid (∀ W, Below w.heap.size w W → Calls Tryd.prog 13 #[.agg #[.bool pl', .slice ao' n' ca', .slice eo' m' ce']] W fun e w' => Below W.heap.size W w' ∧ ∃ v, e = .returned v ∧ CertAt w' W.heap.size v ⟨pl', ls', es'⟩) := fun W hW => by rw [← hn', ← hm']; exact (HC'.out.later hW).copy
  obtain ⟨t, htt⟩ : ∃ t : Bool, (t = true ↔ ((⟨pl, ls, es⟩ : Ce.Cert) = ⟨pl', ls', es'⟩)) := by
    by_cases he : ((⟨pl, ls, es⟩ : Ce.Cert) = ⟨pl', ls', es'⟩)
    · exact ⟨true, by simp [he]⟩
    · exact ⟨false, by simp [he]⟩
  have HSM : Hid (∀ W, Below w.heap.size w W → Calls Tryd.prog 15 #[.agg #[.bool pl, .slice ao n ca, .slice eo m ce], .agg #[.bool pl', .slice ao' n' ca', .slice eo' m' ce']] W fun e w' => e = .returned (.bool t) ∧ Below W.heap.size W w') := fun W hW => by
    rw [← hn, ← hm, ← hn', ← hm']
    obtain ⟨t', h1, h2⟩ := rsame17_any (ca := ca) (ca' := ca') (HC.out.later hW).sees (HC'.out.later hW).sees HF.out
    rw [← (Bool.eq_iff_iff.2 (h1.trans htt.symm) : t' = t)]
    exact h2
  have HTT := Nu.hid htt
  rw [hn, hm, hn', hm'] at HS ⊢
  clear w0 w1 ht hpr hpr' hn hm hn' hm' hk htx htt
  go_enter Tryd.func8, Tryd.ntmps8
  go_wp2_with (go_at_call 11; refine (fixed17_any (HTB.out _ HS.out.low)).mono ?_; rintro e w1 ⟨rfl, hb1⟩; have HS1 := Nu.hid (HS.out.later hb1); have c0 := (three_cells17 HS1.out.b1).1; have c1 := (three_cells17 HS1.out.b1).2.1; have c2 := (three_cells17 HS1.out.b1).2.2.1; clear hb1; refine Hid.out ?_)
  refine Nu.hid ?_
  clear HS
  go_wp2_with (go_at_call 13; refine (HCP.out _ HS1.out.low).mono ?_; rintro e w2 ⟨hb2, v, rfl, hv⟩; have HS2 := Nu.hid (HS1.out.later hb2); have HV := Nu.hid hv; clear hb2 hv; refine Hid.out ?_)
  refine Nu.hid ?_
  clear c0 c1 c2 HS1
  go_wp2_with (go_at_call 10; refine (HV.out.print HFP.out (HTB.out _ HS2.out.low) HPR.out).mono ?_; rintro e w3 ⟨rfl, hb3⟩; have HS3 := Nu.hid (HS2.out.later hb3); have c0 := (three_cells17 HS3.out.b2).1; have c1 := (three_cells17 HS3.out.b2).2.1; have c2 := (three_cells17 HS3.out.b2).2.2.1; clear hb3 HV; refine Hid.out ?_)
  refine Nu.hid ?_
  clear HS2
  go_wp2_with (go_at_call 13; refine (HCP'.out _ HS3.out.low).mono ?_; rintro e w4 ⟨hb4, v, rfl, hv⟩; have HS4 := Nu.hid (HS3.out.later hb4); have HV := Nu.hid hv; clear hb4 hv; refine Hid.out ?_)
  refine Nu.hid ?_
  clear c0 c1 c2 HS3
  go_wp2_with (go_at_call 10; refine (HV.out.print HFP'.out (HTB.out _ HS4.out.low) HPR'.out).mono ?_; rintro e w5 ⟨rfl, hb5⟩; have HS5 := Nu.hid (HS4.out.later hb5); clear hb5 HV; refine Hid.out ?_)
  refine Nu.hid ?_
  clear HS4
  obtain ⟨c0, c1, c2, -⟩ := three_cells17 HS5.out.b1
  obtain ⟨d0, d1, d2, -⟩ := three_cells17 HS5.out.b2
  by_cases hboth : k = 0 ∧ k' = 0
  · obtain ⟨rfl, rfl⟩ := hboth
    have hLt : (L = L') ↔ t = true := (HX.out rfl rfl).trans HTT.out.symm
    cases t with
    | true =>
      obtain rfl : L = L' := hLt.2 rfl
      clear hLt
      go_wp2_with (go_at_call 15; refine (HSM.out _ HS5.out.low).mono ?_; rintro e w6 ⟨rfl, hb6⟩; have HB := Nu.hid (HS5.out.later hb6).low; clear hb6)
      go_ret
      exact ⟨by simp, HB.out⟩
    | false =>
      have hne : L ≠ L' := fun h => by have := hLt.1 h; cases this
      have HNE := Nu.hid hne
      clear hLt hne
      go_wp2_with (go_at_call 15; refine (HSM.out _ HS5.out.low).mono ?_; rintro e w6 ⟨rfl, hb6⟩; have HB := Nu.hid (HS5.out.later hb6).low; clear hb6)
      go_ret
      exact ⟨by simp [HNE.out], HB.out⟩
  · by_cases hkk : k = k'
    · subst hkk
      have h0 : ¬ k = 0 := fun h => hboth ⟨h, h⟩
      have e1 : (k != 0) = true := by simp [h0]
      go_wp2
      go_ret
      exact ⟨by simp, HS5.out.low⟩
    · have htf : t = false := by
        cases t with
        | false => rfl
        | true => exact absurd (HTT.out.1 rfl) (HK.out hkk)
      subst htf
      have hkk' : (k == k') = false := by simp [hkk]
      by_cases h0 : k = 0
      · have h0' : ¬ k' = 0 := fun h => hboth ⟨h0, h⟩
        go_wp2_with (go_at_call 15; refine (HSM.out _ HS5.out.low).mono ?_; rintro e w6 ⟨rfl, hb6⟩; have HB := Nu.hid (HS5.out.later hb6).low; clear hb6)
        go_ret
        exact ⟨by simp, HB.out⟩
      · go_wp2_with (go_at_call 15; refine (HSM.out _ HS5.out.low).mono ?_; rintro e w6 ⟨rfl, hb6⟩; have HB := Nu.hid (HS5.out.later hb6).low; clear hb6)
        go_ret
        exact ⟨by simp, HB.out⟩
set_option maxRecDepth 100000 in
/-- What the walk gives, for every argument and every world that holds the tables. -/
theorem contract (H : Type) (enc : TypeId × Value → H) (W : World) (base : Nat) (args : Array Value) (ds gs : List (DataW H)) (before : List MemPlace)
    (hval : ∀ (j : Nat) t v, Tryd.f8.params[j]? = some t → args[j]? = some v → Value.okWide Tryd.prog W .any base t v)
    (hW : DataW.Whole enc Tryd.prog Tryd.f8.params.toList Rows.certUnlikeSpec.vars false W args.toList ds gs before)
    (hsz : (DataW.weightsEach Tryd.prog (Tryd.f8.params.toList ++ (Rows.OpenSpec.upto Rows.certUnlikeSpec).bare.plain.varTypes Tryd.prog) (ds ++ gs)).all (· ≤ reachBytes) = true)
    (hk : Rows.uptoSmall H (ds ++ gs) = true)
    (hL : laidMet Tryd.prog listed W) :
    Calls Tryd.prog 8 args W fun e W' => ∃ v, e = .returned v ∧ Rows.certUnlikeSpec.post enc Tryd.prog Tryd.f8 false true false false W args v W' := by
  have hW' := hW
  obtain ⟨p, q, hA0, hV, rfl, hfz, hnd⟩ := hW
  have hA : DataW.TrodAll enc Tryd.prog W 0 (fun _ => true) true Tryd.f8.params.toList args.toList ds p := hA0
  rw [Tryd.params8] at hA hval hsz
  obtain ⟨v0, vs0, d0, ds0, p0, q0, hargs, rfl, rfl, h0, r0⟩ := trodAll_cons hA
  obtain ⟨v1, vs1, d1, ds1, p1, q1, rfl, rfl, rfl, h1, r1⟩ := trodAll_cons r0
  obtain ⟨rfl, rfl, rfl⟩ := trodAll_nil r1
  obtain rfl : args = #[v0, v1] := by cases args; simp_all
  obtain ⟨rfl, rfl⟩ := trodVars_none hV
  have k0 := h0
  have lt0 : ∀ x ∈ p0, x.block < W.heap.size := by obtain ⟨m, hm⟩ := k0; exact DataW.trod_lt m _ _ _ hm
  obtain ⟨p0, a0, c0, l0, b0, e0, s0, rfl, w0⟩ := cert_of_trod (j := 0) (hval 0 27 v0 rfl rfl) h0 hk rfl
  have k1 := h1
  have lt1 : ∀ x ∈ p1, x.block < W.heap.size := by obtain ⟨m, hm⟩ := k1; exact DataW.trod_lt m _ _ _ hm
  obtain ⟨p1, a1, c1, l1, b1, e1, s1, rfl, w1⟩ := cert_of_trod (j := 1) (hval 1 27 v1 rfl rfl) h1 hk rfl
  clear hA0
  refine (walk p0 a0 c0 l0 b0 e0 s0 p1 a1 c1 l1 b1 e1 s1 W w0 w1 (table hL)).mono fun e W' ⟨he, bel⟩ => ?_
  subst he
  exact ⟨_, rfl, _, _, _, [], _, [], hW', trodAll_mk1 (shut_bool Tryd.underlying4 _), (trodAll_cons_mk (Below.trod laidOut (by kernel_rfl) (of_decide_eq_true (by kernel_rfl)) k0 bel lt0) (trodAll_cons_mk (Below.trod laidOut (by kernel_rfl) (of_decide_eq_true (by kernel_rfl)) k1 bel lt1) trodAll_mk0)), rfl, bel.frame _, fun h => by cases h⟩

theorem laid_met (os : Os) : laidMet Tryd.prog Rows.certUnlikeUptoRow.laid ((laidWorld os).forCall (fun _ _ => 0) ⟨#[], #[.agg #[.bool false, .slice none 0 0, .slice none 0 0], .agg #[.bool false, .slice none 0 0, .slice none 0 0]], []⟩).memory :=
  laidMet_of_run' 100 (by kernel_rfl) (by kernel_rfl)
theorem reads (os : Os) {H : Type} (enc : TypeId × Value → H) : ∃ places, DataW.whole enc Tryd.prog ((laidWorld os).forCall (fun _ _ => 0) ⟨#[], #[.agg #[.bool false, .slice none 0 0, .slice none 0 0], .agg #[.bool false, .slice none 0 0, .slice none 0 0]], []⟩).memory Tryd.f8.params.toList Rows.certUnlikeSpec.vars false (#[.agg #[.bool false, .slice none 0 0, .slice none 0 0], .agg #[.bool false, .slice none 0 0, .slice none 0 0]] : Array Value).toList 8 = some ([.agg [.lit (.bool false), .nil, .nil], .agg [.lit (.bool false), .nil, .nil]], [], places) :=
  ⟨[], by kernel_rfl⟩

set_option maxRecDepth 100000 in
theorem lifted (os : Os) (started : os.Started) (H : Type) (enc : TypeId × Value → H) (F : Stop.Interp) :
    ReturnsInHanded {} Tryd.checked os 8 .any ((Rows.OpenSpec.upto Rows.certUnlikeSpec).preRow enc Tryd.prog Tryd.f8 Rows.certUnlikeUptoRow.domain false Rows.certUnlikeUptoRow.laid) (((Rows.OpenSpec.upto Rows.certUnlikeSpec).at F).post enc Tryd.prog Tryd.f8 false true false false) := by
  obtain ⟨places, hx⟩ := reads os enc
  refine returnsInHanded_of_row (C := Tryd.checked) (s := (Rows.OpenSpec.upto Rows.certUnlikeSpec)) own started (by kernel_rfl) Tryd.func8
    (witness_row_at (enc := enc) (C := Tryd.checked) false (laidWorld os) #[.agg #[.bool false, .slice none 0 0, .slice none 0 0], .agg #[.bool false, .slice none 0 0, .slice none 0 0]] rfl (by kernel_rfl) (by kernel_rfl) (by kernel_rfl)
      (OpenSpec.preRow_of_cond 8 hx (by kernel_rfl) (fun k hk => by cases hk; kernel_rfl) (by kernel_rfl) (laid_met os))) ?_
  intro W base args ds gs before hval hW _ hcond hsz hL _ _
  exact contract H enc W base args ds gs before hval hW hsz (hcond _ rfl) hL

theorem said : Rows.CertUnlikeUptoSaid :=
  OpenClaim.holds_of_cond 8 Tryd.f8 rfl rfl rfl rfl rfl rfl rfl ⟨rfl, rfl, rfl, rfl, rfl⟩ rfl rfl rfl rfl rfl (by kernel_rfl) Tryd.func8 (by kernel_rfl)
    (of_decide_eq_true (by kernel_rfl)) (by unfold Func.isWrapper; first | (rw [if_pos (by decide +kernel)]; kernel_rfl) | (rw [if_neg (by decide +kernel)]; exact ⟨rfl, rfl⟩))
    (fun os started H enc _ F => by rw [OpenClaim.pre_eq_preRow]; exact lifted os started H enc F)

theorem plain (f : FuncId) (fn : Func) (hf : Tryd.pinned.checked.prog.funcNamed "tangram/tangramlaw17.CertUnlike" = some f) (hfn : Tryd.pinned.checked.prog.funcs[f]? = some fn) :
    true = Tryd.pinned.checked.prog.looks [] ∧ ∀ (j : Nat) t, fn.params[j]? = some t → Tryd.pinned.checked.prog.wantsStandIn t = false := by
  obtain rfl : f = 8 := Option.some.inj ((show Tryd.prog.funcNamed "tangram/tangramlaw17.CertUnlike" = some 8 by kernel_rfl).symm.trans hf) |>.symm
  obtain rfl : fn = Tryd.f8 := (Option.some.inj (Tryd.func8.symm.trans hfn)).symm
  refine ⟨by kernel_rfl, fun j t ht => ?_⟩
  rw [Tryd.params8] at ht
  obtain rfl : t = 27 := by simpa using Array.mem_of_getElem? ht
  exact (show Tryd.prog.wantsStandIn 27 = false by kernel_rfl)

theorem card : Rows.CertUnlikeUptoCardSaid :=
  Claim7.holds_tied_plain_at .later [] _ _ _ _ said (fun _ h => by cases h) (by kernel_rfl) (fun _ h => by cases h) certUnlikeUpto_row_tie rfl ⟨rfl, rfl⟩ (by kernel_rfl) rfl plain (by kernel_rfl)

end lawCeU

theorem certUnlikeUpto_holds : Rows.CertUnlikeUptoCardSaid := lawCeU.card

#print axioms certUnlikeUpto_holds
end Go.Proofs.YtfjgmbimapkabaaDoor
