/-
  Proved: for every graph and every rotation the law FacesEuler answers true, and both read afterwards as before. No condition.
-/
import Derived.Test.YtfkmldopfhdbkaaMg18
import Derived.Test.YtfkmldopfhdbkaaMg14
import Derived.Test.YtfkmldopfhdbkaaMg19
namespace Go.Proofs.Ytfkmldopfhdbkaa
open Go.ChangeShapes Go.WideShapes Go.ChangeAt Go.RowKit
namespace lawFE

set_option maxRecDepth 100000 in
set_option maxHeartbeats 32000000 in
theorem walk (n : Int) (ao : Option Addr) (ca : Nat) (es : List (Int × Int)) (xo : Option Addr) (xc : Nat) (ls : List (List Int)) (w : World) (_ : -9223372036854775808 ≤ n ∧ n ≤ 9223372036854775807) (hq : PairsIn w ao es.length ca es) (hl : es.length * 16 ≤ 140737488351232) (hx : RowsIn w xo ls.length xc ls) :
    Calls Try.prog 5 #[.agg #[.int .i64 n, .slice ao es.length ca], .slice xo ls.length xc] w fun e w' => e = .returned (.bool true) ∧ Below w.heap.size w w' := by

  obtain ⟨W, hW⟩ : ∃ W, W = w.alloc (.cells #[.int .i64 n, .slice ao es.length ca] 24) := ⟨_, rfl⟩
  have hG0 : GS w n ao ca es xo ls W := ⟨by rw [hW]; exact .start hq.hat hx.hat, hl, by have := hx.hsm; omega⟩
  have HWK := Nu.hid (wakes12_any W)
  have HWW := Nu.hid hW
  have HG0 := Nu.hid hG0
  have hl24 := hG0.l24
  obtain ⟨C, hC⟩ : ∃ C, C = (Ro.check n es ls).2 := ⟨_, rfl⟩
  have HC := Nu.hid hC
  obtain ⟨g, hg⟩ : ∃ g, g = Fa.gz n.toNat es ls := ⟨_, rfl⟩
  have HGZ := Nu.hid hg
  obtain ⟨gv, hgv⟩ : ∃ gv, gv = if C = 0 then g else 0 := ⟨_, rfl⟩
  have HGV := Nu.hid hgv
  obtain ⟨fb, hfb⟩ : ∃ fb, fb = decide (C = 0 ∧ g = 0) := ⟨_, rfl⟩
  have HFBB := Nu.hid hfb
  clear hg hgv hfb
  clear hq hx hG0 hW hC
  go_enter Try.func5, Try.ntmps5
  go_wp2_with (go_at_call 9; rw [← HWW.out]; refine HWK.out.mono ?_; rintro e W1 ⟨rfl, hb1⟩; refine Hid.out ?_)
  refine Nu.hid ?_
  have HG1 := Nu.hid (HG0.out.later hb1)
  clear hb1 HWK
  obtain ⟨x0, x1⟩ := HG1.out.cells
  have HCGA := Nu.hid HG1.out.copyG
  go_wp2_with (go_at_call 11; refine HCGA.out.mono ?_; rintro e W2 ⟨coA, ccA, rfl, he, hb⟩; refine Hid.out ?_)
  refine Nu.hid ?_
  have HG2 := Nu.hid (HG1.out.later hb)
  have HEA := Nu.hid he
  clear he hb x0 x1 HCGA
  have HCRA := Nu.hid (HG2.out.copyR (xc := xc))
  go_wp2_with (go_at_call 12; refine HCRA.out.mono ?_; rintro e W3 ⟨yoA, ycA, rfl, hx, hb⟩; refine Hid.out ?_)
  refine Nu.hid ?_
  have HG3 := Nu.hid (HG2.out.later hb)
  have HXA := Nu.hid hx
  have HFA := Nu.hid (HEA.out.later hb)
  clear hx hb HCRA
  have HCA3 := Nu.hid (HG3.out.of (cc := ccA) (yc := ycA) HFA.out HXA.out)
  rw [← HC.out] at HCA3
  go_wp2_with (go_at_call 10; refine HCA3.out.mono ?_; rintro e W4 ⟨o1, q1, vs1, rfl, -, hb⟩; refine Hid.out ?_)
  refine Nu.hid ?_
  have HG4 := Nu.hid (HG3.out.later hb)
  clear hb HCA3 
  obtain ⟨x0, x1⟩ := HG4.out.cells
  have HCGB := Nu.hid HG4.out.copyG
  go_wp2_with (go_at_call 11; refine HCGB.out.mono ?_; rintro e W5 ⟨coB, ccB, rfl, he, hb⟩; refine Hid.out ?_)
  refine Nu.hid ?_
  have HG5 := Nu.hid (HG4.out.later hb)
  have HEB := Nu.hid he
  clear he hb x0 x1 HCGB
  have HCRB := Nu.hid (HG5.out.copyR (xc := xc))
  go_wp2_with (go_at_call 12; refine HCRB.out.mono ?_; rintro e W6 ⟨yoB, ycB, rfl, hx, hb⟩; refine Hid.out ?_)
  refine Nu.hid ?_
  have HG6 := Nu.hid (HG5.out.later hb)
  have HXB := Nu.hid hx
  have HFB := Nu.hid (HEB.out.later hb)
  clear hx hb HCRB
  have HCA6 := Nu.hid (HG6.out.genus (cc := ccB) (yc := ycB) HFB.out HXB.out)
  rw [← HC.out] at HCA6
  unfold GenQ at HCA6; rw [← HGZ.out, ← HGV.out] at HCA6
  go_wp2_with (go_at_call 18; refine HCA6.out.mono ?_; rintro e W7 ⟨rfl, hb⟩; refine Hid.out ?_)
  refine Nu.hid ?_
  have HG7 := Nu.hid (HG6.out.later hb)
  clear hb HCA6 
  obtain ⟨x0, x1⟩ := HG7.out.cells
  have HCGD := Nu.hid HG7.out.copyG
  go_wp2_with (go_at_call 11; refine HCGD.out.mono ?_; rintro e W8 ⟨coD, ccD, rfl, he, hb⟩; refine Hid.out ?_)
  refine Nu.hid ?_
  have HG8 := Nu.hid (HG7.out.later hb)
  have HED := Nu.hid he
  clear he hb x0 x1 HCGD
  have HCRD := Nu.hid (HG8.out.copyR (xc := xc))
  go_wp2_with (go_at_call 12; refine HCRD.out.mono ?_; rintro e W9 ⟨yoD, ycD, rfl, hx, hb⟩; refine Hid.out ?_)
  refine Nu.hid ?_
  have HG9 := Nu.hid (HG8.out.later hb)
  have HXD := Nu.hid hx
  have HFD := Nu.hid (HED.out.later hb)
  clear hx hb HCRD
  have HCA9 := Nu.hid (HG9.out.flat (cc := ccD) (yc := ycD) HFD.out HXD.out)
  rw [← HC.out] at HCA9
  rw [← HGZ.out, ← HFBB.out] at HCA9
  go_wp2_with (go_at_call 20; refine HCA9.out.mono ?_; rintro e W10 ⟨rfl, hb⟩; refine Hid.out ?_)
  refine Nu.hid ?_
  have HG10 := Nu.hid (HG9.out.later hb)
  clear hb HCA9 
  have tc : (C != C) = false := by simp
  by_cases h0 : C = 0
  · have h0c := h0
    rw [HC.out] at h0c
    have hro := Ro.check_iff.1 h0c
    have hv := Si.valid_iff.1 hro.val
    obtain ⟨N, rfl⟩ : ∃ N : Nat, n = (N : Int) := ⟨n.toNat, by have := hv.lo; omega⟩
    have hfew := hv.few
    have hhi := hv.hi
    obtain ⟨-, gn, hgz, hge, -⟩ := Fa.genus_eq hro
    have htn : (N : Int).toNat = N := by omega
    have hgg : g = (gn : Int) := by rw [HGZ.out, htn, hgz]
    have HV := Nu.hid hv
    rw [Fa.orN_ok h0]
    have t0 : (C != 0) = false := by simp [h0]
    have hd : fb = decide (g = 0) := by rw [HFBB.out]; simp [h0]
    have hgg2 : gv = g := by rw [HGV.out, if_pos h0]
    have HD := Nu.hid hd
    clear hd
    subst hgg2
    obtain ⟨F, hF⟩ : ∃ F, F = (Fa.all es ls).length := ⟨_, rfl⟩
    obtain ⟨c, hcc⟩ : ∃ c, c = Co.cnt N (Fa.cp N es) := ⟨_, rfl⟩
    obtain ⟨i, hii⟩ : ∃ i, i = Fa.lonely N es := ⟨_, rfl⟩
    have hcl : c ≤ N := by rw [hcc]; exact Co.cnt_le _ _
    have hil : i ≤ N := by rw [hii]; exact Co.cntTo_le _ _
    rw [← hF, ← hcc, ← hii] at hge
    rw [← hF]
    have HCC := Nu.hid hcc
    have HII := Nu.hid hii
    subst hgg
    clear h0c hro hv hgz htn hF hcc hii h0
    obtain ⟨x0, x1⟩ := HG10.out.cells
    have HCGE := Nu.hid HG10.out.copyG
    go_wp2_with (go_at_call 11; refine HCGE.out.mono ?_; rintro e W11 ⟨coE, ccE, rfl, he, hb⟩; refine Hid.out ?_)
    refine Nu.hid ?_
    have HG11 := Nu.hid (HG10.out.later hb)
    have HOF := Nu.hid (of_any (N : Int) coE ccE es W11 he (by omega))
    unfold graphVal at HOF
    clear he hb x0 x1 HCGE
    go_wp2_with (go_at_call 23; refine HOF.out.mono ?_; intro e W12 hp; obtain ⟨⟨m1, ov, hmn, -, rfl, -⟩ | ⟨hcv, -⟩, hb⟩ := hp <;> refine Hid.out ?_)
    all_goals (first | (exact absurd (Si.valid_iff.2 HV.out) (by rw [hcv]; simp)) | skip)
    refine Nu.hid ?_
    have hm1 : m1 = N := by omega
    subst hm1
    have ec : Co.cnt m1 (Co.ofG m1 es) = c := HCC.out.symm
    rw [ec]
    have HG12 := Nu.hid (HG11.out.later hb)
    clear hb ec hmn HOF
    obtain ⟨x0, x1⟩ := HG12.out.cells
    have HCGF := Nu.hid HG12.out.copyG
    go_wp2_with (go_at_call 11; refine HCGF.out.mono ?_; rintro e W13 ⟨coF, ccF, rfl, he, hb⟩; refine Hid.out ?_)
    refine Nu.hid ?_
    have HG13 := Nu.hid (HG12.out.later hb)
    have HIS := Nu.hid (isolated_any (m1 : Int) coF ccF es W13 he (by omega))
    unfold graphVal at HIS
    clear he hb x0 x1 HCGF
    go_wp2_with (go_at_call 24; refine HIS.out.mono ?_; intro e W14 hp; obtain ⟨⟨m2, hmn, -, rfl⟩ | ⟨hcv, -⟩, hb⟩ := hp <;> refine Hid.out ?_)
    all_goals (first | (exact absurd (Si.valid_iff.2 HV.out) (by rw [hcv]; simp)) | skip)
    refine Nu.hid ?_
    have hm2 : m2 = m1 := by omega
    subst hm2
    have ei : Co.iso m2 es = i := HII.out.symm
    rw [ei]
    have HG14 := Nu.hid (HG13.out.later hb)
    clear hb ei hmn HIS
    obtain ⟨x0, x1⟩ := HG14.out.cells
    have q1 : IntKind.i64.wrap ((m2 : Int) - (es.length : Int)) = (m2 : Int) - (es.length : Int) := by rw [IntKind.wrap_i64]; omega
    have q2 : IntKind.i64.wrap ((m2 : Int) - (es.length : Int) + (F : Int)) = (m2 : Int) - (es.length : Int) + (F : Int) := by rw [IntKind.wrap_i64]; omega
    have q3 : IntKind.i64.wrap ((2 : Int) * (c : Int)) = 2 * (c : Int) := by rw [IntKind.wrap_i64]; omega
    have q4 : IntKind.i64.wrap (2 * (c : Int) - (i : Int)) = 2 * (c : Int) - (i : Int) := by rw [IntKind.wrap_i64]; omega
    have q5 : IntKind.i64.wrap ((2 : Int) * (gn : Int)) = 2 * (gn : Int) := by rw [IntKind.wrap_i64]; omega
    have q6 : IntKind.i64.wrap (2 * (c : Int) - (i : Int) - 2 * (gn : Int)) = 2 * (c : Int) - (i : Int) - 2 * (gn : Int) := by rw [IntKind.wrap_i64]; omega
    have q7 : ((m2 : Int) - (es.length : Int) + (F : Int) == 2 * (c : Int) - (i : Int) - 2 * (gn : Int)) = true := by
      have : (m2 : Int) - (es.length : Int) + (F : Int) = 2 * (c : Int) - (i : Int) - 2 * (gn : Int) := by omega
      simpa using this
    have q8 : (0 : Int) ≤ (gn : Int) := by omega
    have HBE := Nu.hid HG14.out.gr.low
    by_cases hg0 : gn = 0
    · have r1 : fb = true := by rw [HD.out]; simp [hg0]
      have r2 : ((gn : Int) == 0) = true := by simp [hg0]
      subst r1
      clear hg0
      go_wp2
      go_ret
      exact ⟨rfl, HBE.out⟩
    · have r1 : fb = false := by rw [HD.out]; simp [hg0]
      have r2 : ((gn : Int) == 0) = false := by simpa using hg0
      subst r1
      clear hg0
      go_wp2
      go_ret
      exact ⟨rfl, HBE.out⟩
  · have t0 : (C != 0) = true := by simpa using h0
    have hd : fb = false := by rw [HFBB.out]; simp [h0]
    have hgg2 : gv = 0 := by rw [HGV.out, if_neg h0]
    subst hd hgg2
    have HBE := Nu.hid HG10.out.gr.low
    clear h0
    go_wp2
    go_ret
    exact ⟨rfl, HBE.out⟩

set_option maxRecDepth 100000 in
/-- What the walk gives, for every argument and every world. -/
theorem contract (H : Type) (enc : TypeId × Value → H) (W : World) (base : Nat) (args : Array Value) (ds gs : List (DataW H)) (before : List MemPlace)
    (hval : ∀ (j : Nat) t v, Try.f5.params[j]? = some t → args[j]? = some v → Value.okWide Try.prog W .any base t v)
    (hW : DataW.Whole enc Try.prog Try.f5.params.toList Rows.facesEulerSpec.vars false W args.toList ds gs before)
    (hsz : (DataW.weightsEach Try.prog (Try.f5.params.toList ++ (OpenSpec.ofChange Rows.facesEulerSpec).bare.plain.varTypes Try.prog) (ds ++ gs)).all (· ≤ reachBytes) = true)
    :
    Calls Try.prog 5 args W fun e W' => ∃ v, e = .returned v ∧ Rows.facesEulerSpec.post enc Try.prog Try.f5 false true false false W args v W' := by
  have hW' := hW
  obtain ⟨p, q, hA0, hV, rfl, hfz, hnd⟩ := hW
  have hA : DataW.TrodAll enc Try.prog W 0 (fun _ => true) true Try.f5.params.toList args.toList ds p := hA0
  rw [Try.params5] at hA hval hsz
  obtain ⟨v0, vs0, d0, ds0, p0, q0, hargs, rfl, rfl, h0, r0⟩ := trodAll_cons hA
  obtain ⟨v1, vs1, d1, ds1, p1, q1, rfl, rfl, rfl, h1, r1⟩ := trodAll_cons r0
  obtain ⟨rfl, rfl, rfl⟩ := trodAll_nil r1
  obtain rfl : args = #[v0, v1] := by cases args; simp_all
  obtain ⟨rfl, rfl⟩ := trodVars_none hV
  have k0 := h0
  have lt0 : ∀ x ∈ p0, x.block < W.heap.size := by obtain ⟨m, hm⟩ := k0; exact DataW.trod_lt m _ _ _ hm
  obtain ⟨n0, a0, cap0, q0, rfl, x0, w0, u0⟩ := graph_of_trod (j := 0) (hval 0 24 v0 rfl rfl) h0 hsz rfl rfl
  obtain ⟨a1, len1, cap1, rfl⟩ := okWide_slice Try.underlying26 (hval 1 26 v1 rfl rfl)
  have k1 := h1
  have lt1 : ∀ x ∈ p1, x.block < W.heap.size := by obtain ⟨m, hm⟩ := k1; exact DataW.trod_lt m _ _ _ hm
  obtain ⟨q1, w1⟩ := rows_of_trod (j := 1) Try.underlying26 h1 hsz rfl rfl
  have l1 := w1.hlen
  subst l1
  clear hA0
  refine (walk n0 a0 cap0 q0 a1 cap1 q1 W x0 w0 u0 w1).mono fun e W' ⟨he, bel⟩ => ?_
  subst he
  exact ⟨_, rfl, _, _, _, [], _, [], hW', trodAll_mk1 (shut_bool Try.underlying4 _), (trodAll_cons_mk (Below.trod laidOut (by kernel_rfl) (of_decide_eq_true (by kernel_rfl)) k0 bel lt0) (trodAll_cons_mk (Below.trod laidOut (by kernel_rfl) (of_decide_eq_true (by kernel_rfl)) k1 bel lt1) trodAll_mk0)), rfl, bel.frame _, fun h => by cases h⟩

theorem laid_met (os : Os) : laidMet Try.prog Rows.facesEulerRow.laid ((settled os).forCall (fun _ _ => 0) ⟨#[], #[.agg #[.int .i64 0, .slice none 0 0], .slice none 0 0], []⟩).memory :=
  laidMet_of_run' 100 (by kernel_rfl) (by kernel_rfl)
theorem reads (os : Os) {H : Type} (enc : TypeId × Value → H) : ∃ places, DataW.whole enc Try.prog ((settled os).forCall (fun _ _ => 0) ⟨#[], #[.agg #[.int .i64 0, .slice none 0 0], .slice none 0 0], []⟩).memory Try.f5.params.toList Rows.facesEulerSpec.vars false (#[.agg #[.int .i64 0, .slice none 0 0], .slice none 0 0] : Array Value).toList 8 = some ([.agg [.lit (.int .i64 0), .nil], .nil], [], places) :=
  ⟨[], by kernel_rfl⟩

set_option maxRecDepth 100000 in
theorem lifted (os : Os) (started : os.Started) (H : Type) (enc : TypeId × Value → H) (F : Stop.Interp) :
    ReturnsInHanded {} Try.checked os 5 .any ((OpenSpec.ofChange Rows.facesEulerSpec).preRow enc Try.prog Try.f5 Rows.facesEulerRow.domain false Rows.facesEulerRow.laid) (((OpenSpec.ofChange Rows.facesEulerSpec).at F).post enc Try.prog Try.f5 false true false false) := by
  obtain ⟨places, hx⟩ := reads os enc
  refine returnsInHanded_of_row (C := Try.checked) (s := (OpenSpec.ofChange Rows.facesEulerSpec)) own started (by kernel_rfl) Try.func5
    (witness_row_at (enc := enc) (C := Try.checked) false (settled os) #[.agg #[.int .i64 0, .slice none 0 0], .slice none 0 0] rfl (by kernel_rfl) (by kernel_rfl) (by kernel_rfl)
      (OpenSpec.preRow_of_cond 8 hx (by kernel_rfl) (fun k hk => by cases hk) (by kernel_rfl) (laid_met os))) ?_
  intro W base args ds gs before hval hW _ _ hsz _ _ _
  exact contract H enc W base args ds gs before hval hW hsz 

theorem said : Rows.FacesEulerSaid :=
  OpenClaim.holds_of_cond 5 Try.f5 rfl rfl rfl rfl rfl rfl rfl ⟨rfl, rfl, rfl, rfl, rfl⟩ rfl rfl rfl rfl rfl (by kernel_rfl) Try.func5 (by kernel_rfl)
    (of_decide_eq_true (by kernel_rfl)) (by unfold Func.isWrapper; first | (rw [if_pos (by decide +kernel)]; kernel_rfl) | (rw [if_neg (by decide +kernel)]; exact ⟨rfl, rfl⟩))
    (fun os started H enc _ F => by rw [OpenClaim.pre_eq_preRow]; exact lifted os started H enc F)

end lawFE

theorem facesEuler_holds : Rows.FacesEulerSaid := lawFE.said

#print axioms facesEuler_holds
end Go.Proofs.Ytfkmldopfhdbkaa
