/-
  Proved: for every graph and every rotation the law FacesTurned answers true, and both read afterwards as before. No condition.
-/
import Derived.Test.YtfkmldopfhdbkaaMg18
import Derived.Test.YtfkmldopfhdbkaaFaXt
namespace Go.Proofs.Ytfkmldopfhdbkaa
open Go.ChangeShapes Go.WideShapes Go.ChangeAt Go.RowKit
namespace lawFT

set_option maxRecDepth 100000 in
set_option maxHeartbeats 32000000 in
theorem walk (n : Int) (ao : Option Addr) (ca : Nat) (es : List (Int × Int)) (xo : Option Addr) (xc : Nat) (ls : List (List Int)) (w : World) (_ : -9223372036854775808 ≤ n ∧ n ≤ 9223372036854775807) (hq : PairsIn w ao es.length ca es) (hl : es.length * 16 ≤ 140737488351232) (hx : RowsIn w xo ls.length xc ls) :
    Calls Try.prog 6 #[.agg #[.int .i64 n, .slice ao es.length ca], .slice xo ls.length xc] w fun e w' => e = .returned (.bool true) ∧ Below w.heap.size w w' := by

  obtain ⟨W, hW⟩ : ∃ W, W = w.alloc (.cells #[.int .i64 n, .slice ao es.length ca] 24) := ⟨_, rfl⟩
  have hG0 : GS w n ao ca es xo ls W := ⟨by rw [hW]; exact .start hq.hat hx.hat, hl, by have := hx.hsm; omega⟩
  have HWK := Nu.hid (wakes12_any W)
  have HWW := Nu.hid hW
  have HG0 := Nu.hid hG0
  have hl24 := hG0.l24
  obtain ⟨C, hC⟩ : ∃ C, C = (Ro.check n es ls).2 := ⟨_, rfl⟩
  have HC := Nu.hid hC
  have HEI : Hid (es.length ≤ 4611686018427387904) := by show es.length ≤ 4611686018427387904; omega
  clear hq hx hG0 hW hC
  go_enter Try.func6, Try.ntmps6
  go_wp2_with (go_at_call 9; rw [← HWW.out]; refine HWK.out.mono ?_; rintro e W1 ⟨rfl, hb1⟩; refine Hid.out ?_)
  refine Nu.hid ?_
  have HG1 := Nu.hid (HG0.out.later hb1)
  clear hb1 HWK
  obtain ⟨x0, x1⟩ := HG1.out.cells
  have HCGA := Nu.hid HG1.out.copyG
  go_wp2_with (go_at_call 11; refine HCGA.out.mono ?_; rintro e W2 ⟨coA, ccA, rfl, he, hb⟩; refine Hid.out ?_)
  refine Nu.hid ?_
  have HG2 := Nu.hid (HG1.out.later hb)
  have HEA := Nu.hid he
  clear he hb x0 x1 HCGA
  have HCRA := Nu.hid (HG2.out.copyR (xc := xc))
  go_wp2_with (go_at_call 12; refine HCRA.out.mono ?_; rintro e W3 ⟨yoA, ycA, rfl, hx, hb⟩; refine Hid.out ?_)
  refine Nu.hid ?_
  have HG3 := Nu.hid (HG2.out.later hb)
  have HXA := Nu.hid hx
  have HFA := Nu.hid (HEA.out.later hb)
  clear hx hb HCRA
  have HCA3 := Nu.hid (HG3.out.of (cc := ccA) (yc := ycA) HFA.out HXA.out)
  rw [← HC.out] at HCA3
  go_wp2_with (go_at_call 10; refine HCA3.out.mono ?_; rintro e W4 ⟨o1, q1, vs1, rfl, hr, hb⟩; refine Hid.out ?_)
  refine Nu.hid ?_
  have HG4 := Nu.hid (HG3.out.later hb)
  have HRF_4 := Nu.hid hr
  clear hb HCA3 hr
  by_cases h0 : C = 0
  · have h0c := h0
    rw [HC.out] at h0c
    have hro := Ro.check_iff.1 h0c
    have hv := Si.valid_iff.1 hro.val
    obtain ⟨N, rfl⟩ : ∃ N : Nat, n = (N : Int) := ⟨n.toNat, by have := hv.lo; omega⟩
    have hfew := hv.few
    have HRO := Nu.hid hro
    subst h0
    rw [Fa.orN_ok rfl]
    rw [Fa.orN_ok rfl] at HRF_4
    obtain ⟨K, hK⟩ : ∃ K, K = (Fa.all es ls).length := ⟨_, rfl⟩
    rw [← hK] at HRF_4 ⊢
    have HKE := Nu.hid hK
    obtain ⟨g, hg⟩ : ∃ g, g = Fa.gz N es ls := ⟨_, rfl⟩
    have HGZ := Nu.hid hg
    have hL24 : ls.length * 24 ≤ 140737488351232 := hl24
    have t0 : ((0 : Int) != 0) = false := rfl
    have tg : (g != g) = false := by simp
    clear h0c hro hv hK hg
    obtain ⟨x0, x1⟩ := HG4.out.cells
    have HCGB := Nu.hid HG4.out.copyG
    go_wp2_with (go_at_call 11; refine HCGB.out.mono ?_; rintro e W5 ⟨coB, ccB, rfl, he, hb⟩; refine Hid.out ?_)
    refine Nu.hid ?_
    have HG5 := Nu.hid (HG4.out.later hb)
    have HRF_5 := Nu.hid (HRF_4.out.later hb)
    have HEB := Nu.hid he
    clear he hb x0 x1 HCGB
    have HCRB := Nu.hid (HG5.out.copyR (xc := xc))
    go_wp2_with (go_at_call 12; refine HCRB.out.mono ?_; rintro e W6 ⟨yoB, ycB, rfl, hx, hb⟩; refine Hid.out ?_)
    refine Nu.hid ?_
    have HG6 := Nu.hid (HG5.out.later hb)
    have HRF_6 := Nu.hid (HRF_5.out.later hb)
    have HXB := Nu.hid hx
    have HFB := Nu.hid (HEB.out.later hb)
    clear hx hb HCRB
    have HCN := Nu.hid (canonR (yc := ycB) HXB.out hL24)
    go_wp2_with (go_at_call 25; refine HCN.out.mono ?_; rintro e W7 ⟨zoB, zcB, rfl, hz, hb⟩; refine Hid.out ?_)
    refine Nu.hid ?_
    have HG7 := Nu.hid (HG6.out.later hb)
    have HRF_7 := Nu.hid (HRF_6.out.later hb)
    have HZB := Nu.hid hz
    have HFB2 := Nu.hid (HFB.out.later hb)
    clear hz hb HCN
    have HCA7 := Nu.hid (of_rot (yc := zcB) (cc := ccB) HRO.out.canon HFB2.out HZB.out (List.length_map _))
    rw [Fa.all_canon HRO.out, ← HKE.out] at HCA7
    go_wp2_with (go_at_call 10; refine HCA7.out.mono ?_; rintro e W8 ⟨o2, q2, vs2, rfl, hr, hb⟩; refine Hid.out ?_)
    refine Nu.hid ?_
    have HG8 := Nu.hid (HG7.out.later hb)
    have HRF_8 := Nu.hid (HRF_7.out.later hb)
    have HRG_8 := Nu.hid hr
    clear hb HCA7 hr
    obtain ⟨x0, x1⟩ := HG8.out.cells
    have HCGD := Nu.hid HG8.out.copyG
    go_wp2_with (go_at_call 11; refine HCGD.out.mono ?_; rintro e W9 ⟨coD, ccD, rfl, he, hb⟩; refine Hid.out ?_)
    refine Nu.hid ?_
    have HG9 := Nu.hid (HG8.out.later hb)
    have HRF_9 := Nu.hid (HRF_8.out.later hb)
    have HRG_9 := Nu.hid (HRG_8.out.later hb)
    have HED := Nu.hid he
    clear he hb x0 x1 HCGD
    have HCRD := Nu.hid (HG9.out.copyR (xc := xc))
    go_wp2_with (go_at_call 12; refine HCRD.out.mono ?_; rintro e W10 ⟨yoD, ycD, rfl, hx, hb⟩; refine Hid.out ?_)
    refine Nu.hid ?_
    have HG10 := Nu.hid (HG9.out.later hb)
    have HRF_10 := Nu.hid (HRF_9.out.later hb)
    have HRG_10 := Nu.hid (HRG_9.out.later hb)
    have HXD := Nu.hid hx
    have HFD := Nu.hid (HED.out.later hb)
    clear hx hb HCRD
    have HCN := Nu.hid (mirrorR (yc := ycD) HXD.out hL24)
    go_wp2_with (go_at_call 26; refine HCN.out.mono ?_; rintro e W11 ⟨zoD, zcD, rfl, hz, hb⟩; refine Hid.out ?_)
    refine Nu.hid ?_
    have HG11 := Nu.hid (HG10.out.later hb)
    have HRF_11 := Nu.hid (HRF_10.out.later hb)
    have HRG_11 := Nu.hid (HRG_10.out.later hb)
    have HZD := Nu.hid hz
    have HFD2 := Nu.hid (HFD.out.later hb)
    clear hz hb HCN
    have HCA11 := Nu.hid (of_rot (yc := zcD) (cc := ccD) HRO.out.mirror HFD2.out HZD.out (List.length_map _))
    go_wp2_with (go_at_call 10; refine HCA11.out.mono ?_; rintro e W12 ⟨o3, q3, vs3, rfl, hr, hb⟩; refine Hid.out ?_)
    refine Nu.hid ?_
    have HG12 := Nu.hid (HG11.out.later hb)
    have HRF_12 := Nu.hid (HRF_11.out.later hb)
    have HRG_12 := Nu.hid (HRG_11.out.later hb)
    have HRM_12 := Nu.hid hr
    clear hb HCA11 hr
    rw [(Fa.mirror_same HRO.out).1, ← HKE.out] at HRM_12
    rw [(Fa.mirror_same HRO.out).1, ← HKE.out]
    obtain ⟨x0, x1⟩ := HG12.out.cells
    have HCGE := Nu.hid HG12.out.copyG
    go_wp2_with (go_at_call 11; refine HCGE.out.mono ?_; rintro e W13 ⟨coE, ccE, rfl, he, hb⟩; refine Hid.out ?_)
    refine Nu.hid ?_
    have HG13 := Nu.hid (HG12.out.later hb)
    have HRF_13 := Nu.hid (HRF_12.out.later hb)
    have HRG_13 := Nu.hid (HRG_12.out.later hb)
    have HRM_13 := Nu.hid (HRM_12.out.later hb)
    have HEE := Nu.hid he
    clear he hb x0 x1 HCGE
    have HCRE := Nu.hid (HG13.out.copyR (xc := xc))
    go_wp2_with (go_at_call 12; refine HCRE.out.mono ?_; rintro e W14 ⟨yoE, ycE, rfl, hx, hb⟩; refine Hid.out ?_)
    refine Nu.hid ?_
    have HG14 := Nu.hid (HG13.out.later hb)
    have HRF_14 := Nu.hid (HRF_13.out.later hb)
    have HRG_14 := Nu.hid (HRG_13.out.later hb)
    have HRM_14 := Nu.hid (HRM_13.out.later hb)
    have HXE := Nu.hid hx
    have HFE := Nu.hid (HEE.out.later hb)
    clear hx hb HCRE
    have HCA14 := Nu.hid (genus_rot (yc := ycE) (cc := ccE) HRO.out HFE.out HXE.out rfl)
    rw [← HGZ.out] at HCA14
    go_wp2_with (go_at_call 18; refine HCA14.out.mono ?_; rintro e W15 ⟨rfl, hb⟩; refine Hid.out ?_)
    refine Nu.hid ?_
    have HG15 := Nu.hid (HG14.out.later hb)
    have HRF_15 := Nu.hid (HRF_14.out.later hb)
    have HRG_15 := Nu.hid (HRG_14.out.later hb)
    have HRM_15 := Nu.hid (HRM_14.out.later hb)
    clear hb HCA14 
    obtain ⟨x0, x1⟩ := HG15.out.cells
    have HCGI := Nu.hid HG15.out.copyG
    go_wp2_with (go_at_call 11; refine HCGI.out.mono ?_; rintro e W16 ⟨coI, ccI, rfl, he, hb⟩; refine Hid.out ?_)
    refine Nu.hid ?_
    have HG16 := Nu.hid (HG15.out.later hb)
    have HRF_16 := Nu.hid (HRF_15.out.later hb)
    have HRG_16 := Nu.hid (HRG_15.out.later hb)
    have HRM_16 := Nu.hid (HRM_15.out.later hb)
    have HEI := Nu.hid he
    clear he hb x0 x1 HCGI
    have HCRI := Nu.hid (HG16.out.copyR (xc := xc))
    go_wp2_with (go_at_call 12; refine HCRI.out.mono ?_; rintro e W17 ⟨yoI, ycI, rfl, hx, hb⟩; refine Hid.out ?_)
    refine Nu.hid ?_
    have HG17 := Nu.hid (HG16.out.later hb)
    have HRF_17 := Nu.hid (HRF_16.out.later hb)
    have HRG_17 := Nu.hid (HRG_16.out.later hb)
    have HRM_17 := Nu.hid (HRM_16.out.later hb)
    have HXI := Nu.hid hx
    have HFI := Nu.hid (HEI.out.later hb)
    clear hx hb HCRI
    have HCN := Nu.hid (mirrorR (yc := ycI) HXI.out hL24)
    go_wp2_with (go_at_call 26; refine HCN.out.mono ?_; rintro e W18 ⟨zoI, zcI, rfl, hz, hb⟩; refine Hid.out ?_)
    refine Nu.hid ?_
    have HG18 := Nu.hid (HG17.out.later hb)
    have HRF_18 := Nu.hid (HRF_17.out.later hb)
    have HRG_18 := Nu.hid (HRG_17.out.later hb)
    have HRM_18 := Nu.hid (HRM_17.out.later hb)
    have HZI := Nu.hid hz
    have HFI2 := Nu.hid (HFI.out.later hb)
    clear hz hb HCN
    have HCA18 := Nu.hid (genus_rot (yc := zcI) (cc := ccI) HRO.out.mirror HFI2.out HZI.out (List.length_map _))
    rw [Fa.gz_mirror HRO.out, ← HGZ.out] at HCA18
    go_wp2_with (go_at_call 18; refine HCA18.out.mono ?_; rintro e W19 ⟨rfl, hb⟩; refine Hid.out ?_)
    refine Nu.hid ?_
    have HG19 := Nu.hid (HG18.out.later hb)
    have HRF_19 := Nu.hid (HRF_18.out.later hb)
    have HRG_19 := Nu.hid (HRG_18.out.later hb)
    have HRM_19 := Nu.hid (HRM_18.out.later hb)
    clear hb HCA18 
    have HSL : Hid (Calls Try.prog 14 #[.slice o1 K q1, .slice o2 K q2] W19 fun e w' => e = .returned (.bool true) ∧ Below W19.heap.size W19 w') := samelists3_any _ _ _ _ _ _ _ W19 HRF_19.out HRG_19.out (by have := (Fa.all_row HRO.out).1; omega) (fun l hl => by have := (Fa.all_row HRO.out).2 l hl; omega)
    go_wp2_with (go_at_call 14; refine HSL.out.mono ?_; rintro e W20 ⟨rfl, hb⟩; refine Hid.out ?_)
    refine Nu.hid ?_
    have HG20 := Nu.hid (HG19.out.later hb)
    have HRF_20 := Nu.hid (HRF_19.out.later hb)
    have HRG_20 := Nu.hid (HRG_19.out.later hb)
    have HRM_20 := Nu.hid (HRM_19.out.later hb)
    clear hb HSL
    have hd : Below W20.heap.size W20 W20.drew := (Below.refl _ _).drew
    have HGD := Nu.hid (HG20.out.later hd)
    have y0 := HG20.out.cells
    have yd := HGD.out.cells
    obtain ⟨T, hT⟩ : ∃ T, T = 2 * es.length + 1 := ⟨_, rfl⟩
    obtain ⟨LE, hLE⟩ : ∃ LE, LE = Fa.lens (Fa.all es ls) T K := ⟨_, rfl⟩
    have HLQ1 : Hid (Calls Try.prog 27 #[.slice o1 K q1, .int .i64 (es.length : Int)] W20.drew fun e w' => ∃ c, e = .returned (.slice (some ⟨c, 0, none⟩) T T) ∧ IntsBlk w' c LE ∧ Below W20.heap.size W20 w') := by
      have h1 := HRF_20.out.later hd
      rw [HKE.out] at h1
      have h2 := lengths_any o1 q1 (Fa.all es ls) es.length _ (all_rws HRO.out h1) (Fa.all_row HRO.out).1 hfew (all_few HRO.out)
      rw [← HKE.out, ← hT, ← hLE] at h2
      refine h2.mono ?_
      rintro e w' ⟨c, e1, -, e2, e3⟩
      exact ⟨c, e1, e2, hd.trans e3⟩
    have HLQ2 : Hid (∀ U, Below W20.heap.size W20 U → Calls Try.prog 27 #[.slice o3 K q3, .int .i64 (es.length : Int)] U fun e w' => ∃ c, e = .returned (.slice (some ⟨c, 0, none⟩) T T) ∧ IntsBlk w' c LE ∧ Below U.heap.size U w') := fun U hU => by
      have h1 := HRM_20.out.later hU
      have hmk := (Fa.mirror_same HRO.out).1
      rw [HKE.out, ← hmk] at h1
      have h2 := lengths_any o3 q3 (Fa.all es (ls.map fun l => Ro.canon1 l.reverse)) es.length _ (all_rws HRO.out.mirror h1) (Fa.all_row HRO.out.mirror).1 hfew (all_few HRO.out.mirror)
      rw [Fa.lens_same (Fa.mirror_same HRO.out).2, hmk, ← HKE.out, ← hT, ← hLE] at h2
      refine h2.mono ?_
      rintro e w' ⟨c, e1, -, e2, e3⟩
      exact ⟨c, e1, e2, e3⟩
    have hLEl : LE.length = T := by rw [hLE, Fa.lens_len]
    have HSI : Hid (∀ (U : World) (c c' : Nat), IntsBlk U c LE → IntsBlk U c' LE → Calls Try.prog 17 #[.slice (some ⟨c, 0, none⟩) T T, .slice (some ⟨c', 0, none⟩) T T] U fun e w' => e = .returned (.bool true) ∧ Below U.heap.size U w') := fun U c c' h1 h2 => by
      refine (sameints_any (some ⟨c, 0, none⟩) (some ⟨c', 0, none⟩) T T T T LE LE U hLEl hLEl (fun j x hj => ⟨c, 0, rfl, by rw [Nat.zero_add]; exact h1.cell hj⟩) (fun j x hj => ⟨c', 0, rfl, by rw [Nat.zero_add]; exact h2.cell hj⟩) (by omega)).mono ?_
      rintro e w' ⟨e1, hb⟩
      exact ⟨by rw [e1]; simp, hb⟩
    clear hd hT hLE hLEl
    go_wp2_with fail
    go_region_held3 (fun U => U.cell? ⟨w.heap.size, 0, none⟩ = some (.int .i64 (N : Int)) ∧ U.cell? ⟨w.heap.size, 1, none⟩ = some (.slice ao es.length ca))
      (first | exact yd | exact y0 | exact ya | exact yb | exact yc)
      (first
        | (go_at_call 27; refine (HLQ2.out Va hba).mono ?_; rintro e Vb ⟨cb1, rfl, hib, hbb⟩; have hGb := hGa.later hbb; have yb := hGb.cells)
        | (go_at_call 27; refine HLQ1.out.mono ?_; rintro e Va ⟨ca1, rfl, hia, hba⟩; have hGa := HG20.out.later hba; have ya := hGa.cells)
        | (go_at_call 17; refine (HSI.out Vb ca1 cb1 (hia.later hbb) hib).mono ?_; rintro e Vc ⟨rfl, hbc⟩; have hGc := hGb.later hbc; have yc := hGc.cells))
    have HBE := Nu.hid hGc.gr.low
    clear hGa hGb hGc ya yb yc y0 yd hba hbb hbc hia hib
    go_wp2
    go_ret
    exact ⟨rfl, HBE.out⟩
  · have t0 : (C != 0) = true := by simpa using h0
    rw [Fa.orN_bad h0]
    have HBE := Nu.hid HG4.out.gr.low
    clear h0
    go_wp2
    go_ret
    exact ⟨rfl, HBE.out⟩

set_option maxRecDepth 100000 in
/-- What the walk gives, for every argument and every world. -/
theorem contract (H : Type) (enc : TypeId × Value → H) (W : World) (base : Nat) (args : Array Value) (ds gs : List (DataW H)) (before : List MemPlace)
    (hval : ∀ (j : Nat) t v, Try.f6.params[j]? = some t → args[j]? = some v → Value.okWide Try.prog W .any base t v)
    (hW : DataW.Whole enc Try.prog Try.f6.params.toList Rows.facesTurnedSpec.vars false W args.toList ds gs before)
    (hsz : (DataW.weightsEach Try.prog (Try.f6.params.toList ++ (OpenSpec.ofChange Rows.facesTurnedSpec).bare.plain.varTypes Try.prog) (ds ++ gs)).all (· ≤ reachBytes) = true)
    :
    Calls Try.prog 6 args W fun e W' => ∃ v, e = .returned v ∧ Rows.facesTurnedSpec.post enc Try.prog Try.f6 false true false false W args v W' := by
  have hW' := hW
  obtain ⟨p, q, hA0, hV, rfl, hfz, hnd⟩ := hW
  have hA : DataW.TrodAll enc Try.prog W 0 (fun _ => true) true Try.f6.params.toList args.toList ds p := hA0
  rw [Try.params6] at hA hval hsz
  obtain ⟨v0, vs0, d0, ds0, p0, q0, hargs, rfl, rfl, h0, r0⟩ := trodAll_cons hA
  obtain ⟨v1, vs1, d1, ds1, p1, q1, rfl, rfl, rfl, h1, r1⟩ := trodAll_cons r0
  obtain ⟨rfl, rfl, rfl⟩ := trodAll_nil r1
  obtain rfl : args = #[v0, v1] := by cases args; simp_all
  obtain ⟨rfl, rfl⟩ := trodVars_none hV
  have k0 := h0
  have lt0 : ∀ x ∈ p0, x.block < W.heap.size := by obtain ⟨m, hm⟩ := k0; exact DataW.trod_lt m _ _ _ hm
  obtain ⟨n0, a0, cap0, q0, rfl, x0, w0, u0⟩ := graph_of_trod (j := 0) (hval 0 24 v0 rfl rfl) h0 hsz rfl rfl
  obtain ⟨a1, len1, cap1, rfl⟩ := okWide_slice Try.underlying26 (hval 1 26 v1 rfl rfl)
  have k1 := h1
  have lt1 : ∀ x ∈ p1, x.block < W.heap.size := by obtain ⟨m, hm⟩ := k1; exact DataW.trod_lt m _ _ _ hm
  obtain ⟨q1, w1⟩ := rows_of_trod (j := 1) Try.underlying26 h1 hsz rfl rfl
  have l1 := w1.hlen
  subst l1
  clear hA0
  refine (walk n0 a0 cap0 q0 a1 cap1 q1 W x0 w0 u0 w1).mono fun e W' ⟨he, bel⟩ => ?_
  subst he
  exact ⟨_, rfl, _, _, _, [], _, [], hW', trodAll_mk1 (shut_bool Try.underlying4 _), (trodAll_cons_mk (Below.trod laidOut (by kernel_rfl) (of_decide_eq_true (by kernel_rfl)) k0 bel lt0) (trodAll_cons_mk (Below.trod laidOut (by kernel_rfl) (of_decide_eq_true (by kernel_rfl)) k1 bel lt1) trodAll_mk0)), rfl, bel.frame _, fun h => by cases h⟩

theorem laid_met (os : Os) : laidMet Try.prog Rows.facesTurnedRow.laid ((settled os).forCall (fun _ _ => 0) ⟨#[], #[.agg #[.int .i64 0, .slice none 0 0], .slice none 0 0], []⟩).memory :=
  laidMet_of_run' 100 (by kernel_rfl) (by kernel_rfl)
theorem reads (os : Os) {H : Type} (enc : TypeId × Value → H) : ∃ places, DataW.whole enc Try.prog ((settled os).forCall (fun _ _ => 0) ⟨#[], #[.agg #[.int .i64 0, .slice none 0 0], .slice none 0 0], []⟩).memory Try.f6.params.toList Rows.facesTurnedSpec.vars false (#[.agg #[.int .i64 0, .slice none 0 0], .slice none 0 0] : Array Value).toList 8 = some ([.agg [.lit (.int .i64 0), .nil], .nil], [], places) :=
  ⟨[], by kernel_rfl⟩

set_option maxRecDepth 100000 in
theorem lifted (os : Os) (started : os.Started) (H : Type) (enc : TypeId × Value → H) (F : Stop.Interp) :
    ReturnsInHanded {} Try.checked os 6 .any ((OpenSpec.ofChange Rows.facesTurnedSpec).preRow enc Try.prog Try.f6 Rows.facesTurnedRow.domain false Rows.facesTurnedRow.laid) (((OpenSpec.ofChange Rows.facesTurnedSpec).at F).post enc Try.prog Try.f6 false true false false) := by
  obtain ⟨places, hx⟩ := reads os enc
  refine returnsInHanded_of_row (C := Try.checked) (s := (OpenSpec.ofChange Rows.facesTurnedSpec)) own started (by kernel_rfl) Try.func6
    (witness_row_at (enc := enc) (C := Try.checked) false (settled os) #[.agg #[.int .i64 0, .slice none 0 0], .slice none 0 0] rfl (by kernel_rfl) (by kernel_rfl) (by kernel_rfl)
      (OpenSpec.preRow_of_cond 8 hx (by kernel_rfl) (fun k hk => by cases hk) (by kernel_rfl) (laid_met os))) ?_
  intro W base args ds gs before hval hW _ _ hsz _ _ _
  exact contract H enc W base args ds gs before hval hW hsz 

theorem said : Rows.FacesTurnedSaid :=
  OpenClaim.holds_of_cond 6 Try.f6 rfl rfl rfl rfl rfl rfl rfl ⟨rfl, rfl, rfl, rfl, rfl⟩ rfl rfl rfl rfl rfl (by kernel_rfl) Try.func6 (by kernel_rfl)
    (of_decide_eq_true (by kernel_rfl)) (by unfold Func.isWrapper; first | (rw [if_pos (by decide +kernel)]; kernel_rfl) | (rw [if_neg (by decide +kernel)]; exact ⟨rfl, rfl⟩))
    (fun os started H enc _ F => by rw [OpenClaim.pre_eq_preRow]; exact lifted os started H enc F)

end lawFT

theorem facesTurned_holds : Rows.FacesTurnedSaid := lawFT.said

#print axioms facesTurned_holds
end Go.Proofs.Ytfkmldopfhdbkaa
