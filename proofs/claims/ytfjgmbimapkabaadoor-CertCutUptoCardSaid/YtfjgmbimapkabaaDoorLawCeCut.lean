/-
  Proved: for every certificate, every cut and all bytes of bulk at most 1048576 the law CertCut answers true, and they read afterwards as before.
-/
import Derived.Test.YtfjgmbimapkabaaDoorCeAp
namespace Go.Proofs.YtfjgmbimapkabaaDoor
open Go.ChangeShapes Go.WideShapes Go.ChangeAt Go.RowKit

namespace lawCeC

/-- What a cut text says. -/
theorem cut_told {c : Ce.Cert} (hg : Ce.good c) (hl : (Ce.textB c).length ≤ 33554432) {q : Nat} (hq : q < (Ce.textB c).length) : ∃ p : Int, Ce.parse (Ce.ofL ((Ce.textB c).take q)) ((Ce.textB c).take q).length = (Ce.zero, p, 170) ∧ 0 ≤ p ∧ p ≤ (q : Int) := by
  have hlen : ((Ce.textB c).take q).length = q := by rw [List.length_take]; omega
  have hT := Ce.ofL_txt ((Ce.textB c).take q)
  rw [hlen] at hT ⊢
  obtain ⟨h1, h2, h3⟩ := Ce.parse_cut hg hl hq hT (fun i hi => by
    unfold Ce.ofL
    rw [List.getElem?_take, if_pos hi])
  rcases Ce.parse_fault hT with h | ⟨h, -⟩
  · rw [h] at h1
    cases h1
  · refine ⟨(Ce.parse (Ce.ofL ((Ce.textB c).take q)) q).2.1, ?_, h2, h3⟩
    rw [← h, ← h1]
/-- What a text with more behind it says. -/
theorem more_told {c : Ce.Cert} {g : Nat → Int} {n : Nat} (hg : Ce.good c) (hn : 0 < n) (hl : (Ce.textB c).length + n ≤ 33554432) : Ce.parse (Ce.atF ((Ce.textB c).length + n) (both17 (Ce.textB c) g)) ((Ce.textB c).length + n) = (Ce.zero, ((Ce.textB c).length : Int), 170) := by
  rw [Ce.parse_at hg (fun j x hj => ?_) (by omega) hl, if_pos (by omega)]
  have hjl := (List.getElem?_eq_some_iff.1 hj).1
  rw [Nat.zero_add, Ce.atF, if_pos (by omega), both17, if_pos hjl]
  unfold Ce.ofL
  rw [hj]

set_option maxRecDepth 100000 in
set_option maxHeartbeats 8000000 in
theorem walk (pl : Bool) (ao : Option Addr) (ca : Nat) (ls : List (List Int)) (eo : Option Addr) (ce : Nat) (es : List (Int × Int)) (a1 : Int) (a2 : Option Addr) (len2 cap2 : Nat) (z2 : List Int) (w : World) (w0 : CertIn w pl ao ls eo ce es) (_ : (Lit.int .i64 a1).wf = true) (w2 : IsRow .u8 1 w a2 len2 cap2 z2) (hu : len2 ≤ 1048576) (ht : Tab w) :
    Calls Tryd.prog 7 #[.agg #[.bool pl, .slice ao ls.length ca, .slice eo es.length ce], .int .i64 a1, .slice a2 len2 cap2] w fun e w' => e = .returned (.bool true) ∧ Below w.heap.size w w' := by
  obtain ⟨L, k, hpr⟩ := Ce.pr_is ⟨pl, ls, es⟩
  obtain ⟨g, htx⟩ : ∃ g, HasText w a2 len2 g := ⟨_, w2.text⟩
  have HTX := Nu.hid htx
  have HPR := Nu.hid hpr
  have HFP := Nu.hid w0.fitsP
  have HC := Nu.hid w0
  have HTB := Nu.hid (tab_below ht)
  have hz := heap_alloc_new w (.cells #[.bool pl, .slice ao ls.length ca, .slice eo es.length ce] 27)
  have hbz : Below w.heap.size w (w.alloc (.cells #[.bool pl, .slice ao ls.length ca, .slice eo es.length ce] 27)) := (Below.refl _ _).alloc (Nat.le_refl _) _
  have HZ := Nu.hid hz
  have HB := Nu.hid hbz
  obtain ⟨n, hn⟩ : ∃ n, ls.length = n := ⟨_, rfl⟩
  obtain ⟨m, hm⟩ : ∃ m, es.length = m := ⟨_, rfl⟩
  have HCP : Hid (∀ W, Below w.heap.size w W → Calls Tryd.prog 13 #[.agg #[.bool pl, .slice ao n ca, .slice eo m ce]] W fun e w' => Below W.heap.size W w' ∧ ∃ v, e = .returned v ∧ CertAt w' W.heap.size v ⟨pl, ls, es⟩) := fun W hW => by rw [← hn, ← hm]; exact (HC.out.later hW).copy
  rw [hn, hm] at HZ HB ⊢
  clear w0 w2 ht hpr hz hbz hn hm htx
  go_enter Tryd.func7, Tryd.ntmps7
  go_wp2_with (go_at_call 11; refine (fixed17_any (HTB.out _ HB.out)).mono ?_; rintro e w1 ⟨rfl, hb1⟩; have hz1 := (hb1.block _ (lt_of_block HZ.out)).trans HZ.out; have HB1 := Nu.hid (HB.out.trans (hb1.mono HB.out.size)); have c0 := (three_cells17 hz1).1; have c1 := (three_cells17 hz1).2.1; have c2 := (three_cells17 hz1).2.2.1; clear hb1 hz1; refine Hid.out ?_)
  refine Nu.hid ?_
  clear HB HZ
  go_wp2_with (go_at_call 13; refine (HCP.out _ HB1.out).mono ?_; rintro e w2 ⟨hb2, v, rfl, hv⟩; have HB2 := Nu.hid (HB1.out.trans (hb2.mono HB1.out.size)); have HV := Nu.hid hv; clear hb2 hv; refine Hid.out ?_)
  refine Nu.hid ?_
  clear c0 c1 c2 HB1
  go_wp2_with (go_at_call 10; refine (HV.out.print HFP.out (HTB.out _ HB2.out) HPR.out).mono ?_; rintro e w3 ⟨rfl, hb3⟩; have HB3 := Nu.hid (HB2.out.trans (hb3.mono HB2.out.size)); clear hb3 HV; refine Hid.out ?_)
  refine Nu.hid ?_
  clear HB2 HCP HC HFP
  by_cases hk0 : k = 0
  · subst hk0
    obtain ⟨hg, hL, hLl⟩ := HPR.out.yes rfl
    have hL0 : 0 < L.length := by rw [hL]; unfold Ce.textB; simp
    have HG := Nu.hid hg
    have HL := Nu.hid hL
    have HCT : Hid (∀ q, q < L.length → ∃ p : Int, Ce.parse (Ce.ofL (L.take q)) (L.take q).length = (Ce.zero, p, 170) ∧ 0 ≤ p ∧ p ≤ (q : Int)) := fun q hq => by
      rw [hL] at hq hLl ⊢
      exact cut_told hg hLl hq
    clear hg hL HPR
    obtain ⟨q, hq⟩ : ∃ q : Nat, min (max a1 0) ((L.length : Int) - 1) = (q : Int) := ⟨(min (max a1 0) ((L.length : Int) - 1)).toNat, by omega⟩
    have hqL : q < L.length := by omega
    obtain ⟨p, hp, hp0, hpq⟩ := HCT.out q hqL
    obtain ⟨M, hM⟩ : ∃ M, L.take q = M := ⟨_, rfl⟩
    have hMl : M.length = q := by rw [← hM, List.length_take]; omega
    have hex : (⟨L.toArray⟩ : ByteArray).extract 0 q = ⟨M.toArray⟩ := by rw [Lib.extract_eq, ← hM]; simp
    have kb := sb_conv M w3
    have HPP := Nu.hid (sb_parse M w3 (by omega))
    rw [hM] at hp
    rw [hp, hMl] at HPP
    rw [hMl] at kb
    have HB4 := Nu.hid (HB3.out.trans ((sb_below w3 ⟨M.toArray⟩).mono HB3.out.size))
    clear hM hMl
    have HQ := Nu.hid hq
    clear hp HCT hq
    go_wp2_with fail
    simp only [HQ.out, Int.toNat_natCast, hex, kb]
    clear HB3
    go_wp2_with (go_at_call 9; refine HPP.out.mono ?_; rintro e w5 he; obtain ⟨hb5, so, sa, sb, sc, rfl, -⟩ := he.cert (pl := false) (n := 0) (m := 0) rfl rfl rfl; clear he; have HB5 := Nu.hid (HB4.out.trans (hb5.mono HB4.out.size)); clear hb5; refine Hid.out ?_)
    refine Nu.hid ?_
    have HB6 := Nu.hid (HB5.out.trans ((box_below w5 (.bool false) (.slice so 0 sa) (.slice sb 0 sc)).mono HB5.out.size))
    clear HPP HB4 HB5 kb hex
    have j1 : ¬ ((q : Int) < p) := by omega
    have j2 : ¬ (p < 0) := by omega
    by_cases hn0 : len2 = 0
    · subst hn0
      go_wp2
      go_ret
      exact ⟨rfl, HB6.out⟩
    · have j3 : ((len2 : Int) == 0) = false := by simp; omega
      by_cases hbig : 33554432 < L.length + len2
      · have j4 : (33554432 : Int) < (L.length : Int) + (len2 : Int) := by omega
        go_wp2
        go_ret
        exact ⟨rfl, HB6.out⟩
      · have j4 : ¬ ((33554432 : Int) < (L.length : Int) + (len2 : Int)) := by omega
        have HMT : Hid (Ce.parse (Ce.atF (L.length + len2) (both17 L g)) (L.length + len2) = (Ce.zero, (L.length : Int), 170)) := by
          rw [HL.out] at hbig ⊢
          exact more_told HG.out (by omega) (by omega)
        go_wp2_with fail
        generalize w5.alloc (.cells #[.bool false, .slice so 0 sa, .slice sb 0 sc] 27) = W at HB6 ⊢
        have HTX1 := Nu.hid (HTX.out.later HB6.out)
        simp only [sb_conv L W]
        go_wp2_with (at_builtin; refine wpList_append17 rfl _ _ rfl _ L rfl rfl (by omega) HTX1.out (by omega) ?_; refine Hid.out ?_)
        refine Nu.hid ?_
        intro b c w6 ht6 hlt6 hc6 hb6
        have HPP := Nu.hid (parse17_any (cap := c) ht6 (fun x hx => by cases hx; exact ⟨hlt6, rfl⟩) (by omega) hc6)
        rw [HMT.out] at HPP
        have HB7 := Nu.hid (HB6.out.trans (hb6.mono HB6.out.size))
        clear ht6 hlt6 hc6 hb6
        go_wp2_with (go_at_call 9; refine HPP.out.mono ?_; rintro e w8 he; obtain ⟨hb8, to', ta, tb, tc, rfl, -⟩ := he.cert (pl := false) (n := 0) (m := 0) rfl rfl rfl; clear he; have HB8 := Nu.hid (HB7.out.trans (hb8.mono HB7.out.size)); clear hb8; refine Hid.out ?_)
        refine Nu.hid ?_
        go_wp2
        go_ret
        exact ⟨by simp, HB8.out⟩
  · obtain rfl : L = [] := HPR.out.no hk0
    go_wp2
    go_ret
    exact ⟨by simp, HB3.out⟩
set_option maxRecDepth 100000 in
/-- What the walk gives, for every argument and every world that holds the tables. -/
theorem contract (H : Type) (enc : TypeId × Value → H) (W : World) (base : Nat) (args : Array Value) (ds gs : List (DataW H)) (before : List MemPlace)
    (hval : ∀ (j : Nat) t v, Tryd.f7.params[j]? = some t → args[j]? = some v → Value.okWide Tryd.prog W .any base t v)
    (hW : DataW.Whole enc Tryd.prog Tryd.f7.params.toList Rows.certCutSpec.vars false W args.toList ds gs before)
    (hsz : (DataW.weightsEach Tryd.prog (Tryd.f7.params.toList ++ (Rows.OpenSpec.upto Rows.certCutSpec).bare.plain.varTypes Tryd.prog) (ds ++ gs)).all (· ≤ reachBytes) = true)
    (hk : Rows.uptoSmall H (ds ++ gs) = true)
    (hL : laidMet Tryd.prog listed W) :
    Calls Tryd.prog 7 args W fun e W' => ∃ v, e = .returned v ∧ Rows.certCutSpec.post enc Tryd.prog Tryd.f7 false true false false W args v W' := by
  have hW' := hW
  obtain ⟨p, q, hA0, hV, rfl, hfz, hnd⟩ := hW
  have hA : DataW.TrodAll enc Tryd.prog W 0 (fun _ => true) true Tryd.f7.params.toList args.toList ds p := hA0
  rw [Tryd.params7] at hA hval hsz
  obtain ⟨v0, vs0, d0, ds0, p0, q0, hargs, rfl, rfl, h0, r0⟩ := trodAll_cons hA
  obtain ⟨v1, vs1, d1, ds1, p1, q1, rfl, rfl, rfl, h1, r1⟩ := trodAll_cons r0
  obtain ⟨v2, vs2, d2, ds2, p2, q2, rfl, rfl, rfl, h2, r2⟩ := trodAll_cons r1
  obtain ⟨rfl, rfl, rfl⟩ := trodAll_nil r2
  obtain rfl : args = #[v0, v1, v2] := by cases args; simp_all
  obtain ⟨rfl, rfl⟩ := trodVars_none hV
  have k0 := h0
  have lt0 : ∀ x ∈ p0, x.block < W.heap.size := by obtain ⟨m, hm⟩ := k0; exact DataW.trod_lt m _ _ _ hm
  obtain ⟨p0, a0, c0, l0, b0, e0, s0, rfl, w0⟩ := cert_of_trod (j := 0) (hval 0 27 v0 rfl rfl) h0 hk rfl
  obtain ⟨a1, rfl, rfl, rfl, w1⟩ := open_int Tryd.underlying3 (hval 1 3 v1 rfl rfl) h1
  obtain ⟨a2, len2, cap2, rfl⟩ := okWide_slice Tryd.underlying31 (hval 2 31 v2 rfl rfl)
  have k2 := h2
  have lt2 : ∀ x ∈ p2, x.block < W.heap.size := by obtain ⟨m, hm⟩ := k2; exact DataW.trod_lt m _ _ _ hm
  obtain ⟨z2, w2⟩ := IsRow.of_trod (j := 2) Tryd.underlying31 Tryd.underlying5 cellsU8 bytesU8 h2 hsz rfl rfl
  have u2 : len2 ≤ 1048576 := IsRow.upto hk (j := 2) Tryd.underlying31 Tryd.underlying5 cellsU8 h2 rfl
  clear hA0
  refine (walk p0 a0 c0 l0 b0 e0 s0 a1 a2 len2 cap2 z2 W w0 w1 w2 u2 (table hL)).mono fun e W' ⟨he, bel⟩ => ?_
  subst he
  exact ⟨_, rfl, _, _, _, [], _, [], hW', trodAll_mk1 (shut_bool Tryd.underlying4 _), (trodAll_cons_mk (Below.trod laidOut (by kernel_rfl) (of_decide_eq_true (by kernel_rfl)) k0 bel lt0) (trodAll_cons_mk (shut_int Tryd.underlying3 w1) (trodAll_cons_mk (Below.trod laidOut (by kernel_rfl) (of_decide_eq_true (by kernel_rfl)) k2 bel lt2) trodAll_mk0))), rfl, bel.frame _, fun h => by cases h⟩

theorem laid_met (os : Os) : laidMet Tryd.prog Rows.certCutUptoRow.laid ((laidWorld os).forCall (fun _ _ => 0) ⟨#[], #[.agg #[.bool false, .slice none 0 0, .slice none 0 0], .int .i64 0, .slice none 0 0], []⟩).memory :=
  laidMet_of_run' 100 (by kernel_rfl) (by kernel_rfl)
theorem reads (os : Os) {H : Type} (enc : TypeId × Value → H) : ∃ places, DataW.whole enc Tryd.prog ((laidWorld os).forCall (fun _ _ => 0) ⟨#[], #[.agg #[.bool false, .slice none 0 0, .slice none 0 0], .int .i64 0, .slice none 0 0], []⟩).memory Tryd.f7.params.toList Rows.certCutSpec.vars false (#[.agg #[.bool false, .slice none 0 0, .slice none 0 0], .int .i64 0, .slice none 0 0] : Array Value).toList 8 = some ([.agg [.lit (.bool false), .nil, .nil], .lit (.int .i64 0), .nil], [], places) :=
  ⟨[], by kernel_rfl⟩

set_option maxRecDepth 100000 in
theorem lifted (os : Os) (started : os.Started) (H : Type) (enc : TypeId × Value → H) (F : Stop.Interp) :
    ReturnsInHanded {} Tryd.checked os 7 .any ((Rows.OpenSpec.upto Rows.certCutSpec).preRow enc Tryd.prog Tryd.f7 Rows.certCutUptoRow.domain false Rows.certCutUptoRow.laid) (((Rows.OpenSpec.upto Rows.certCutSpec).at F).post enc Tryd.prog Tryd.f7 false true false false) := by
  obtain ⟨places, hx⟩ := reads os enc
  refine returnsInHanded_of_row (C := Tryd.checked) (s := (Rows.OpenSpec.upto Rows.certCutSpec)) own started (by kernel_rfl) Tryd.func7
    (witness_row_at (enc := enc) (C := Tryd.checked) false (laidWorld os) #[.agg #[.bool false, .slice none 0 0, .slice none 0 0], .int .i64 0, .slice none 0 0] rfl (by kernel_rfl) (by kernel_rfl) (by kernel_rfl)
      (OpenSpec.preRow_of_cond 8 hx (by kernel_rfl) (fun k hk => by cases hk; kernel_rfl) (by kernel_rfl) (laid_met os))) ?_
  intro W base args ds gs before hval hW _ hcond hsz hL _ _
  exact contract H enc W base args ds gs before hval hW hsz (hcond _ rfl) hL

theorem said : Rows.CertCutUptoSaid :=
  OpenClaim.holds_of_cond 7 Tryd.f7 rfl rfl rfl rfl rfl rfl rfl ⟨rfl, rfl, rfl, rfl, rfl⟩ rfl rfl rfl rfl rfl (by kernel_rfl) Tryd.func7 (by kernel_rfl)
    (of_decide_eq_true (by kernel_rfl)) (by unfold Func.isWrapper; first | (rw [if_pos (by decide +kernel)]; kernel_rfl) | (rw [if_neg (by decide +kernel)]; exact ⟨rfl, rfl⟩))
    (fun os started H enc _ F => by rw [OpenClaim.pre_eq_preRow]; exact lifted os started H enc F)

theorem plain (f : FuncId) (fn : Func) (hf : Tryd.pinned.checked.prog.funcNamed "tangram/tangramlaw17.CertCut" = some f) (hfn : Tryd.pinned.checked.prog.funcs[f]? = some fn) :
    true = Tryd.pinned.checked.prog.looks [] ∧ ∀ (j : Nat) t, fn.params[j]? = some t → Tryd.pinned.checked.prog.wantsStandIn t = false := by
  obtain rfl : f = 7 := Option.some.inj ((show Tryd.prog.funcNamed "tangram/tangramlaw17.CertCut" = some 7 by kernel_rfl).symm.trans hf) |>.symm
  obtain rfl : fn = Tryd.f7 := (Option.some.inj (Tryd.func7.symm.trans hfn)).symm
  refine ⟨by kernel_rfl, fun j t ht => ?_⟩
  rw [Tryd.params7] at ht
  obtain hx : t = 27 ∨ t = 3 ∨ t = 31 := by simpa using Array.mem_of_getElem? ht
  rcases hx with rfl | rfl | rfl
  · exact (show Tryd.prog.wantsStandIn 27 = false by kernel_rfl)
  · exact (show Tryd.prog.wantsStandIn 3 = false by kernel_rfl)
  · exact (show Tryd.prog.wantsStandIn 31 = false by kernel_rfl)

theorem card : Rows.CertCutUptoCardSaid :=
  Claim7.holds_tied_plain_at .later [] _ _ _ _ said (fun _ h => by cases h) (by kernel_rfl) (fun _ h => by cases h) certCutUpto_row_tie rfl ⟨rfl, rfl⟩ (by kernel_rfl) rfl plain (by kernel_rfl)

end lawCeC

theorem certCutUpto_holds : Rows.CertCutUptoCardSaid := lawCeC.card

#print axioms certCutUpto_holds
end Go.Proofs.YtfjgmbimapkabaaDoor
