/-
  Proved: for every graph and every rotation the law FacesOf answers true, and both read afterwards as before. No condition.
-/
import Derived.Test.YtfkmldopfhdbkaaMg18
import Derived.Test.YtfkmldopfhdbkaaFaV
import Derived.Test.YtfkmldopfhdbkaaFaXs
namespace Go.Proofs.Ytfkmldopfhdbkaa
open Go.ChangeShapes Go.WideShapes Go.ChangeAt Go.RowKit
namespace lawFO

set_option maxRecDepth 100000 in
set_option maxHeartbeats 32000000 in
theorem walk (n : Int) (ao : Option Addr) (ca : Nat) (es : List (Int × Int)) (xo : Option Addr) (xc : Nat) (ls : List (List Int)) (w : World) (_ : -9223372036854775808 ≤ n ∧ n ≤ 9223372036854775807) (hq : PairsIn w ao es.length ca es) (hl : es.length * 16 ≤ 140737488351232) (hx : RowsIn w xo ls.length xc ls) :
    Calls Try.prog 3 #[.agg #[.int .i64 n, .slice ao es.length ca], .slice xo ls.length xc] w fun e w' => e = .returned (.bool true) ∧ Below w.heap.size w w' := by

  obtain ⟨W, hW⟩ : ∃ W, W = w.alloc (.cells #[.int .i64 n, .slice ao es.length ca] 24) := ⟨_, rfl⟩
  have hG0 : GS w n ao ca es xo ls W := ⟨by rw [hW]; exact .start hq.hat hx.hat, hl, by have := hx.hsm; omega⟩
  have HWK := Nu.hid (wakes12_any W)
  have HWW := Nu.hid hW
  have HG0 := Nu.hid hG0
  have hl24 := hG0.l24
  obtain ⟨C, hC⟩ : ∃ C, C = (Ro.check n es ls).2 := ⟨_, rfl⟩
  have HC := Nu.hid hC
  obtain ⟨g, hg⟩ : ∃ g, g = Fa.gz n.toNat es ls := ⟨_, rfl⟩
  have HGZ := Nu.hid hg
  obtain ⟨gv, hgv⟩ : ∃ gv, gv = if C = 0 then g else 0 := ⟨_, rfl⟩
  have HGV := Nu.hid hgv
  obtain ⟨fb, hfb⟩ : ∃ fb, fb = decide (C = 0 ∧ g = 0) := ⟨_, rfl⟩
  have HFBB := Nu.hid hfb
  obtain ⟨LL, hLL⟩ : ∃ LL, LL = Fa.orN C (Fa.all es ls) := ⟨_, rfl⟩
  have HLLE := Nu.hid hLL
  obtain ⟨LF, hLF⟩ : ∃ LF, LF = Fa.orN C (Fa.left es ls) := ⟨_, rfl⟩
  have HLFE := Nu.hid hLF
  have HSM := Nu.hid (Fa.small (n := n) (es := es) (ls := ls))
  rw [← hC, ← hLL, ← hLF] at HSM
  have HEI : Hid (es.length ≤ 4611686018427387904) := by show es.length ≤ 4611686018427387904; omega
  clear hg hgv hfb hLL hLF
  clear hq hx hG0 hW hC
  go_enter Try.func3, Try.ntmps3
  go_wp2_with (go_at_call 9; rw [← HWW.out]; refine HWK.out.mono ?_; rintro e W1 ⟨rfl, hb1⟩; refine Hid.out ?_)
  refine Nu.hid ?_
  have HG1 := Nu.hid (HG0.out.later hb1)
  clear hb1 HWK
  have tc : (C != C) = false := by simp
  have te : (C == C) = true := by simp
  have tg : (gv == gv) = true := by simp
  obtain ⟨x0, x1⟩ := HG1.out.cells
  have HCGA := Nu.hid HG1.out.copyG
  go_wp2_with (go_at_call 11; refine HCGA.out.mono ?_; rintro e W2 ⟨coA, ccA, rfl, he, hb⟩; refine Hid.out ?_)
  refine Nu.hid ?_
  have HG2 := Nu.hid (HG1.out.later hb)
  have HEA := Nu.hid he
  clear he hb x0 x1 HCGA
  have HCRA := Nu.hid (HG2.out.copyR (xc := xc))
  go_wp2_with (go_at_call 12; refine HCRA.out.mono ?_; rintro e W3 ⟨yoA, ycA, rfl, hx, hb⟩; refine Hid.out ?_)
  refine Nu.hid ?_
  have HG3 := Nu.hid (HG2.out.later hb)
  have HXA := Nu.hid hx
  have HFA := Nu.hid (HEA.out.later hb)
  clear hx hb HCRA
  have HCA3 := Nu.hid (HG3.out.of (cc := ccA) (yc := ycA) HFA.out HXA.out)
  rw [← HC.out] at HCA3
  rw [← HLLE.out] at HCA3
  go_wp2_with (go_at_call 10; refine HCA3.out.mono ?_; rintro e W4 ⟨o1, q1, vs1, rfl, hr, hb⟩; refine Hid.out ?_)
  refine Nu.hid ?_
  have HG4 := Nu.hid (HG3.out.later hb)
  have HRF_4 := Nu.hid hr
  clear hb HCA3 hr
  obtain ⟨x0, x1⟩ := HG4.out.cells
  have HCA4 := Nu.hid ((r12of_any n ao ca es xo xc ls W4 HG4.out.gr.edges HEI.out HG4.out.gr.rows).mono (fun e w' h => h.form))
  rw [← HC.out] at HCA4
  unfold graphVal at HCA4; rw [← HLLE.out] at HCA4
  go_wp2_with (go_at_call 13; refine HCA4.out.mono ?_; rintro e W5 ⟨o2, q2, vs2, rfl, hr, hb⟩; refine Hid.out ?_)
  refine Nu.hid ?_
  have HG5 := Nu.hid (HG4.out.later hb)
  have HRF_5 := Nu.hid (HRF_4.out.later hb)
  have HRG_5 := Nu.hid hr
  clear hb HCA4 hr
  clear x0 x1
  have HCA5 := Nu.hid (samelists3_any _ _ _ _ _ _ _ W5 HRF_5.out HRG_5.out HSM.out.1 HSM.out.2.1)
  go_wp2_with (go_at_call 14; refine HCA5.out.mono ?_; rintro e W6 ⟨rfl, hb⟩; refine Hid.out ?_)
  refine Nu.hid ?_
  have HG6 := Nu.hid (HG5.out.later hb)
  have HRF_6 := Nu.hid (HRF_5.out.later hb)
  have HRG_6 := Nu.hid (HRG_5.out.later hb)
  clear hb HCA5 
  obtain ⟨x0, x1⟩ := HG6.out.cells
  have HCGB := Nu.hid HG6.out.copyG
  go_wp2_with (go_at_call 11; refine HCGB.out.mono ?_; rintro e W7 ⟨coB, ccB, rfl, he, hb⟩; refine Hid.out ?_)
  refine Nu.hid ?_
  have HG7 := Nu.hid (HG6.out.later hb)
  have HEB := Nu.hid he
  clear he hb x0 x1 HCGB
  have HCRB := Nu.hid (HG7.out.copyR (xc := xc))
  go_wp2_with (go_at_call 12; refine HCRB.out.mono ?_; rintro e W8 ⟨yoB, ycB, rfl, hx, hb⟩; refine Hid.out ?_)
  refine Nu.hid ?_
  have HG8 := Nu.hid (HG7.out.later hb)
  have HXB := Nu.hid hx
  have HFB := Nu.hid (HEB.out.later hb)
  clear hx hb HCRB
  have HCA8 := Nu.hid (HG8.out.left (cc := ccB) (yc := ycB) HFB.out HXB.out)
  rw [← HC.out] at HCA8
  rw [← HLFE.out] at HCA8
  go_wp2_with (go_at_call 15; refine HCA8.out.mono ?_; rintro e W9 ⟨o3, q3, rfl, ho, hb⟩; refine Hid.out ?_)
  refine Nu.hid ?_
  have HG9 := Nu.hid (HG8.out.later hb)
  have HOF_9 := Nu.hid ho
  clear hb HCA8 ho
  obtain ⟨x0, x1⟩ := HG9.out.cells
  have HCA9 := Nu.hid ((r12left_any n ao ca es xo xc ls W9 HG9.out.gr.edges HEI.out HG9.out.gr.rows).mono (fun e w' h => h.form))
  rw [← HC.out] at HCA9
  unfold graphVal at HCA9; rw [← HLFE.out] at HCA9
  go_wp2_with (go_at_call 16; refine HCA9.out.mono ?_; rintro e W10 ⟨o4, q4, rfl, ho, hb⟩; refine Hid.out ?_)
  refine Nu.hid ?_
  have HG10 := Nu.hid (HG9.out.later hb)
  have HOF_10 := Nu.hid (HOF_9.out.later hb)
  have HOG_10 := Nu.hid ho
  clear hb HCA9 ho
  clear x0 x1
  have HCA10 := Nu.hid (same3_own HOF_10.out HOG_10.out HSM.out.2.2)
  go_wp2_with (go_at_call 17; refine HCA10.out.mono ?_; rintro e W11 ⟨rfl, hb⟩; refine Hid.out ?_)
  refine Nu.hid ?_
  have HG11 := Nu.hid (HG10.out.later hb)
  clear hb HCA10 
  obtain ⟨x0, x1⟩ := HG11.out.cells
  have HCGD := Nu.hid HG11.out.copyG
  go_wp2_with (go_at_call 11; refine HCGD.out.mono ?_; rintro e W12 ⟨coD, ccD, rfl, he, hb⟩; refine Hid.out ?_)
  refine Nu.hid ?_
  have HG12 := Nu.hid (HG11.out.later hb)
  have HED := Nu.hid he
  clear he hb x0 x1 HCGD
  have HCRD := Nu.hid (HG12.out.copyR (xc := xc))
  go_wp2_with (go_at_call 12; refine HCRD.out.mono ?_; rintro e W13 ⟨yoD, ycD, rfl, hx, hb⟩; refine Hid.out ?_)
  refine Nu.hid ?_
  have HG13 := Nu.hid (HG12.out.later hb)
  have HXD := Nu.hid hx
  have HFD := Nu.hid (HED.out.later hb)
  clear hx hb HCRD
  have HCA13 := Nu.hid (HG13.out.genus (cc := ccD) (yc := ycD) HFD.out HXD.out)
  rw [← HC.out] at HCA13
  unfold GenQ at HCA13; rw [← HGZ.out, ← HGV.out] at HCA13
  go_wp2_with (go_at_call 18; refine HCA13.out.mono ?_; rintro e W14 ⟨rfl, hb⟩; refine Hid.out ?_)
  refine Nu.hid ?_
  have HG14 := Nu.hid (HG13.out.later hb)
  clear hb HCA13 
  obtain ⟨x0, x1⟩ := HG14.out.cells
  have HCA14 := Nu.hid (r12genus_any n ao ca es xo xc ls W14 HG14.out.gr.edges HEI.out HG14.out.gr.rows)
  rw [← HC.out] at HCA14
  unfold graphVal GenQ at HCA14; rw [← HGZ.out, ← HGV.out] at HCA14
  go_wp2_with (go_at_call 19; refine HCA14.out.mono ?_; rintro e W15 ⟨rfl, hb⟩; refine Hid.out ?_)
  refine Nu.hid ?_
  have HG15 := Nu.hid (HG14.out.later hb)
  clear hb HCA14 
  clear x0 x1
  have hd : Below W15.heap.size W15 W15.drew := (Below.refl _ _).drew
  have HGD := Nu.hid (HG15.out.later hd)
  have y0 := HG15.out.cells
  have yd := HGD.out.cells
  have HFL : Hid (∀ (U : World), GS w n ao ca es xo ls U → Calls Try.prog 21 #[.agg #[.int .i64 n, .slice ao es.length ca], .slice xo ls.length xc] U fun e w' => e = .returned (.bool fb) ∧ Below U.heap.size U w') := fun U hU => by rw [HFBB.out, HC.out, HGZ.out]; exact r12flat_any n ao ca es xo xc ls U hU.gr.edges HEI.out hU.gr.rows
  have HFP : Hid (∀ (U : World) (co yo : Option Addr) (cc yc : Nat), GS w n ao ca es xo ls U → EdgesAt U co es → RwsAt U yo ls → Calls Try.prog 20 #[.agg #[.int .i64 n, .slice co es.length cc], .slice yo ls.length yc] U fun e w' => e = .returned (.bool fb) ∧ Below U.heap.size U w') := fun U co yo cc yc hU he hx => by rw [HFBB.out, HC.out, HGZ.out]; exact hU.flat he hx
  have tb : (fb == fb) = true := by simp
  clear hd
  go_wp2_with fail
  go_region_held3 (fun U => U.cell? ⟨w.heap.size, 0, none⟩ = some (.int .i64 n) ∧ U.cell? ⟨w.heap.size, 1, none⟩ = some (.slice ao es.length ca))
    (first | exact yd | exact y0 | exact ya | exact yb | exact yc | exact ye)
    (first
      | (go_at_call 11; refine HGD.out.copyG.mono ?_; rintro e Va ⟨coE, ccE, rfl, hea, hba⟩; have hGa := HGD.out.later hba; have ya := hGa.cells)
      | (go_at_call 12; refine (hGa.copyR (xc := xc)).mono ?_; rintro e Vb ⟨yoE, ycE, rfl, hxb, hbb⟩; have hGb := hGa.later hbb; have yb := hGb.cells)
      | (go_at_call 20; refine (HFP.out Vb coE yoE ccE ycE hGb (hea.later hbb) hxb).mono ?_; rintro e Vc ⟨rfl, hbc⟩; have hGc := hGb.later hbc; have yc := hGc.cells)
      | (go_at_call 21; refine (HFL.out Vc hGc).mono ?_; rintro e Vd ⟨rfl, hbd⟩; have hGe := hGc.later hbd; have ye := hGe.cells))
  have HBE := Nu.hid hGe.gr.low
  clear hGa hGb hGc hGe ya yb yc ye y0 yd hba hbb hbc hbd hea hxb
  go_wp2
  go_ret
  exact ⟨rfl, HBE.out⟩

set_option maxRecDepth 100000 in
/-- What the walk gives, for every argument and every world. -/
theorem contract (H : Type) (enc : TypeId × Value → H) (W : World) (base : Nat) (args : Array Value) (ds gs : List (DataW H)) (before : List MemPlace)
    (hval : ∀ (j : Nat) t v, Try.f3.params[j]? = some t → args[j]? = some v → Value.okWide Try.prog W .any base t v)
    (hW : DataW.Whole enc Try.prog Try.f3.params.toList Rows.facesOfSpec.vars false W args.toList ds gs before)
    (hsz : (DataW.weightsEach Try.prog (Try.f3.params.toList ++ (OpenSpec.ofChange Rows.facesOfSpec).bare.plain.varTypes Try.prog) (ds ++ gs)).all (· ≤ reachBytes) = true)
    :
    Calls Try.prog 3 args W fun e W' => ∃ v, e = .returned v ∧ Rows.facesOfSpec.post enc Try.prog Try.f3 false true false false W args v W' := by
  have hW' := hW
  obtain ⟨p, q, hA0, hV, rfl, hfz, hnd⟩ := hW
  have hA : DataW.TrodAll enc Try.prog W 0 (fun _ => true) true Try.f3.params.toList args.toList ds p := hA0
  rw [Try.params3] at hA hval hsz
  obtain ⟨v0, vs0, d0, ds0, p0, q0, hargs, rfl, rfl, h0, r0⟩ := trodAll_cons hA
  obtain ⟨v1, vs1, d1, ds1, p1, q1, rfl, rfl, rfl, h1, r1⟩ := trodAll_cons r0
  obtain ⟨rfl, rfl, rfl⟩ := trodAll_nil r1
  obtain rfl : args = #[v0, v1] := by cases args; simp_all
  obtain ⟨rfl, rfl⟩ := trodVars_none hV
  have k0 := h0
  have lt0 : ∀ x ∈ p0, x.block < W.heap.size := by obtain ⟨m, hm⟩ := k0; exact DataW.trod_lt m _ _ _ hm
  obtain ⟨n0, a0, cap0, q0, rfl, x0, w0, u0⟩ := graph_of_trod (j := 0) (hval 0 24 v0 rfl rfl) h0 hsz rfl rfl
  obtain ⟨a1, len1, cap1, rfl⟩ := okWide_slice Try.underlying26 (hval 1 26 v1 rfl rfl)
  have k1 := h1
  have lt1 : ∀ x ∈ p1, x.block < W.heap.size := by obtain ⟨m, hm⟩ := k1; exact DataW.trod_lt m _ _ _ hm
  obtain ⟨q1, w1⟩ := rows_of_trod (j := 1) Try.underlying26 h1 hsz rfl rfl
  have l1 := w1.hlen
  subst l1
  clear hA0
  refine (walk n0 a0 cap0 q0 a1 cap1 q1 W x0 w0 u0 w1).mono fun e W' ⟨he, bel⟩ => ?_
  subst he
  exact ⟨_, rfl, _, _, _, [], _, [], hW', trodAll_mk1 (shut_bool Try.underlying4 _), (trodAll_cons_mk (Below.trod laidOut (by kernel_rfl) (of_decide_eq_true (by kernel_rfl)) k0 bel lt0) (trodAll_cons_mk (Below.trod laidOut (by kernel_rfl) (of_decide_eq_true (by kernel_rfl)) k1 bel lt1) trodAll_mk0)), rfl, bel.frame _, fun h => by cases h⟩

theorem laid_met (os : Os) : laidMet Try.prog Rows.facesOfRow.laid ((settled os).forCall (fun _ _ => 0) ⟨#[], #[.agg #[.int .i64 0, .slice none 0 0], .slice none 0 0], []⟩).memory :=
  laidMet_of_run' 100 (by kernel_rfl) (by kernel_rfl)
theorem reads (os : Os) {H : Type} (enc : TypeId × Value → H) : ∃ places, DataW.whole enc Try.prog ((settled os).forCall (fun _ _ => 0) ⟨#[], #[.agg #[.int .i64 0, .slice none 0 0], .slice none 0 0], []⟩).memory Try.f3.params.toList Rows.facesOfSpec.vars false (#[.agg #[.int .i64 0, .slice none 0 0], .slice none 0 0] : Array Value).toList 8 = some ([.agg [.lit (.int .i64 0), .nil], .nil], [], places) :=
  ⟨[], by kernel_rfl⟩

set_option maxRecDepth 100000 in
theorem lifted (os : Os) (started : os.Started) (H : Type) (enc : TypeId × Value → H) (F : Stop.Interp) :
    ReturnsInHanded {} Try.checked os 3 .any ((OpenSpec.ofChange Rows.facesOfSpec).preRow enc Try.prog Try.f3 Rows.facesOfRow.domain false Rows.facesOfRow.laid) (((OpenSpec.ofChange Rows.facesOfSpec).at F).post enc Try.prog Try.f3 false true false false) := by
  obtain ⟨places, hx⟩ := reads os enc
  refine returnsInHanded_of_row (C := Try.checked) (s := (OpenSpec.ofChange Rows.facesOfSpec)) own started (by kernel_rfl) Try.func3
    (witness_row_at (enc := enc) (C := Try.checked) false (settled os) #[.agg #[.int .i64 0, .slice none 0 0], .slice none 0 0] rfl (by kernel_rfl) (by kernel_rfl) (by kernel_rfl)
      (OpenSpec.preRow_of_cond 8 hx (by kernel_rfl) (fun k hk => by cases hk) (by kernel_rfl) (laid_met os))) ?_
  intro W base args ds gs before hval hW _ _ hsz _ _ _
  exact contract H enc W base args ds gs before hval hW hsz 

theorem said : Rows.FacesOfSaid :=
  OpenClaim.holds_of_cond 3 Try.f3 rfl rfl rfl rfl rfl rfl rfl ⟨rfl, rfl, rfl, rfl, rfl⟩ rfl rfl rfl rfl rfl (by kernel_rfl) Try.func3 (by kernel_rfl)
    (of_decide_eq_true (by kernel_rfl)) (by unfold Func.isWrapper; first | (rw [if_pos (by decide +kernel)]; kernel_rfl) | (rw [if_neg (by decide +kernel)]; exact ⟨rfl, rfl⟩))
    (fun os started H enc _ F => by rw [OpenClaim.pre_eq_preRow]; exact lifted os started H enc F)

end lawFO

theorem facesOf_holds : Rows.FacesOfSaid := lawFO.said

#print axioms facesOf_holds
end Go.Proofs.Ytfkmldopfhdbkaa
