/-
  Proved: for every graph and every forest the law LowOf answers true, and both read afterwards as before. No condition.
-/
import Derived.Test.YtmgoahbloppdmaaGreatMg11
import Derived.Test.YtmgoahbloppdmaaGreatMg28
import Derived.Test.YtmgoahbloppdmaaGreatMg38
namespace Go.Proofs.YtmgoahbloppdmaaGreat
open Go.ChangeShapes Go.WideShapes Go.ChangeAt Go.RowKit
namespace lawLOf

set_option maxRecDepth 100000 in
set_option maxHeartbeats 16000000 in
theorem walk (n : Int) (ao : Option Addr) (ca : Nat) (es : List (Int × Int)) (f : For) (s : Df.St) (w : World) (_ : -9223372036854775808 ≤ n ∧ n ≤ 9223372036854775807) (hq : PairsIn w ao es.length ca es) (hl : es.length * 16 ≤ 140737488351232) (hF : LstF w f s) (_hI : In64F s) :
    Calls Tryz.prog 3 #[.agg #[.int .i64 n, .slice ao es.length ca], f.val s] w fun e w' => e = .returned (.bool true) ∧ Below w.heap.size w w' := by
  obtain ⟨a1, a2, a3, a4, c1, c2, c3, c4⟩ := f
  change Calls _ _ #[_, .agg #[.slice a1 s.par.length c1, .slice a2 s.hei.length c2, .slice a3 s.ord.length c3, .slice a4 s.ori.length c4]] _ _
  obtain ⟨W, hW⟩ : ∃ W, W = (w.alloc (.cells #[.int .i64 n, .slice ao es.length ca] 24)).alloc (.cells #[.slice a1 s.par.length c1, .slice a2 s.hei.length c2, .slice a3 s.ord.length c3, .slice a4 s.ori.length c4] 27) := ⟨_, rfl⟩
  have hB0 : Below w.heap.size w W := by rw [hW]; exact ((Below.refl _ _).alloc (Nat.le_refl _) _).alloc (by simp) _
  have g1 : W.heap[w.heap.size]? = some (.cells #[.int .i64 n, .slice ao es.length ca] 24 (0, 0)) := by
    rw [hW, Below.heap_alloc _ _ _ (by simp)]
    exact heap_alloc_new w _
  have g2 : W.heap[w.heap.size + 1]? = some (.cells #[.slice a1 s.par.length c1, .slice a2 s.hei.length c2, .slice a3 s.ord.length c3, .slice a4 s.ori.length c4] 27 (0, 0)) := by
    rw [hW]
    exact alloc_at (by simp)
  have lt1 := lt_of_block g1
  have lt2 := lt_of_block g2
  have hat := hq.hat.later hB0
  have hFW := hF.later hB0
  have HBOX : Hid (∀ V, Below W.heap.size W V → V.cell? ⟨w.heap.size, 0, none⟩ = some (.int .i64 n) ∧ V.cell? ⟨w.heap.size, 1, none⟩ = some (.slice ao es.length ca) ∧ V.cell? ⟨w.heap.size + 1, 0, none⟩ = some (.slice a1 s.par.length c1) ∧ V.cell? ⟨w.heap.size + 1, 1, none⟩ = some (.slice a2 s.hei.length c2) ∧ V.cell? ⟨w.heap.size + 1, 2, none⟩ = some (.slice a3 s.ord.length c3) ∧ V.cell? ⟨w.heap.size + 1, 3, none⟩ = some (.slice a4 s.ori.length c4)) := fun V hV => by
    obtain ⟨x0, x1, -⟩ := pair_cells ((hV.block w.heap.size lt1).trans g1)
    obtain ⟨q0, q1, q2, q3, -⟩ := four_cells ((hV.block (w.heap.size + 1) lt2).trans g2)
    exact ⟨x0, x1, q0, q1, q2, q3⟩
  have HRO : Hid (∀ V, Below W.heap.size W V → Calls Tryz.prog 7 #[.agg #[.int .i64 n, .slice ao es.length ca], .agg #[.slice a1 s.par.length c1, .slice a2 s.hei.length c2, .slice a3 s.ord.length c3, .slice a4 s.ori.length c4]] V fun r w' => ∃ a1 k1 c1 a2 k2 c2 a3 k3 c3 a4 k4 c4 A1 A2 A3 ls z, r = .returned (.tuple #[.agg #[.slice a1 k1 c1, .slice a2 k2 c2, .slice a3 k3 c3, .slice a4 k4 c4], .int .i64 z]) ∧ LowIs n es s A1 A2 A3 ls z ∧ LowAt w' (.slice a1 k1 c1) (.slice a2 k2 c2) (.slice a3 k3 c3) (.slice a4 k4 c4) A1 A2 A3 ls ∧ Below V.heap.size V w') := fun V hV =>
    (r8Of_any n ao ca es ⟨a1, a2, a3, a4, c1, c2, c3, c4⟩ s V (hat.later hV) (by omega) (hFW.later hV)).mono fun r w' h => h.form
  have HPO : Hid (∀ V, Below W.heap.size W V → Calls Tryz.prog 8 #[.agg #[.int .i64 n, .slice ao es.length ca], .agg #[.slice a1 s.par.length c1, .slice a2 s.hei.length c2, .slice a3 s.ord.length c3, .slice a4 s.ori.length c4]] V fun r w' => ∃ a1 k1 c1 a2 k2 c2 a3 k3 c3 a4 k4 c4 A1 A2 A3 ls z, r = .returned (.tuple #[.agg #[.slice a1 k1 c1, .slice a2 k2 c2, .slice a3 k3 c3, .slice a4 k4 c4], .int .i64 z]) ∧ LowIs n es s A1 A2 A3 ls z ∧ LowAt w' (.slice a1 k1 c1) (.slice a2 k2 c2) (.slice a3 k3 c3) (.slice a4 k4 c4) A1 A2 A3 ls ∧ Below V.heap.size V w') := fun V hV =>
    (pof_new n ao ca es ⟨a1, a2, a3, a4, c1, c2, c3, c4⟩ s V (hat.later hV) (by omega) (hFW.later hV)).mono fun r w' h => h.low.form
  have HFX := Nu.hid (fixed8_any W)
  have HWW := Nu.hid hW
  have HB0 := Nu.hid hB0
  clear hF g1 g2 hB0 hW hat hq hFW
  go_enter Tryz.func3, Tryz.ntmps3
  go_wp2_with (go_at_call 6; rw [← HWW.out]; refine HFX.out.mono ?_; rintro e w1 ⟨rfl, hb1⟩; obtain ⟨x0, x1, x2, x3, x4, x5⟩ := HBOX.out w1 hb1; have HB1 := Nu.hid hb1; have hs1 := hb1.size; clear hb1; refine Hid.out ?_)
  refine Nu.hid ?_
  go_wp2_with (go_at_call 7; refine (HRO.out _ HB1.out).mono ?_; rintro e w2 ⟨b1, k1, d1, b2, k2, d2, b3, k3, d3, b4, k4, d4, A1, A2, A3, ls, z, rfl, hI, hA, hb2⟩; refine Hid.out ?_)
  refine Nu.hid ?_
  obtain ⟨w3, hw3⟩ : ∃ w3, w3 = w2.alloc (.cells #[.slice b1 k1 d1, .slice b2 k2 d2, .slice b3 k3 d3, .slice b4 k4 d4] 31) := ⟨_, rfl⟩
  have hb3 : Below w2.heap.size w2 w3 := by rw [hw3]; exact (Below.refl _ _).alloc (Nat.le_refl _) _
  have hs3 : w3.heap.size = w2.heap.size + 1 := by rw [hw3]; simp
  have hs2 := hb2.size
  have hB3 : Below W.heap.size W w3 := HB1.out.trans ((hb2.trans (hb3.mono hb2.size)).mono HB1.out.size)
  have lb3 : w3.heap[w2.heap.size]? = some (.cells #[.slice b1 k1 d1, .slice b2 k2 d2, .slice b3 k3 d3, .slice b4 k4 d4] 31 (0, 0)) := by rw [hw3]; exact heap_alloc_new w2 _
  obtain ⟨x0, x1, x2, x3, x4, x5⟩ := HBOX.out w3 hB3
  have HP3 := Nu.hid (HPO.out w3 hB3)
  have HA3 := Nu.hid (hA.later hb3)
  have HI := Nu.hid hI
  have HB3 := Nu.hid hB3
  have HLB3 := Nu.hid lb3
  have HW3 := Nu.hid hw3
  rw [hw3] at x0 x1 x2 x3 x4 x5
  clear hb3 hb2 hB3 hA hI lb3 hw3 HRO HPO
  go_wp2_with (go_at_call 8; rw [← HW3.out]; refine HP3.out.mono ?_; rintro e w4 ⟨e1, m1, t1, e2, m2, t2, e3, m3, t3, e4, m4, t4, B1, B2, B3, ls', z', rfl, hI', hA', hb4⟩; refine Hid.out ?_)
  refine Nu.hid ?_
  obtain ⟨q1, q2, q3, q4, q5⟩ := hI'.unique HI.out
  obtain ⟨n1, n2, n3, n4, n5⟩ := HI.out.small
  subst q1 q2 q3 q4 q5
  obtain ⟨w5, hw5⟩ : ∃ w5, w5 = w4.alloc (.cells #[.slice e1 m1 t1, .slice e2 m2 t2, .slice e3 m3 t3, .slice e4 m4 t4] 31) := ⟨_, rfl⟩
  have hb5 : Below w4.heap.size w4 w5 := by rw [hw5]; exact (Below.refl _ _).alloc (Nat.le_refl _) _
  have hs5 : w5.heap.size = w4.heap.size + 1 := by rw [hw5]; simp
  have hs4 := hb4.size
  have hB35 : Below w3.heap.size w3 w5 := hb4.trans (hb5.mono hb4.size)
  have hB5 : Below W.heap.size W w5 := HB3.out.trans (hB35.mono HB3.out.size)
  have lb5 : w5.heap[w4.heap.size]? = some (.cells #[.slice e1 m1 t1, .slice e2 m2 t2, .slice e3 m3 t3, .slice e4 m4 t4] 31 (0, 0)) := by rw [hw5]; exact heap_alloc_new w4 _
  obtain ⟨y0, y1, y2, y3, -⟩ := four_cells lb5
  obtain ⟨p0, p1, p2, p3, -⟩ := four_cells ((hB35.block _ (lt_of_block HLB3.out)).trans HLB3.out)
  have HSM := Nu.hid (same8_any _ _ _ _ _ _ _ _ _ _ _ _ w5 (hA'.later hb5) (HA3.out.later hB35) n1 n2 n3 n4 n5)
  have HBF := Nu.hid (HB0.out.trans (hB5.mono HB0.out.size))
  have HW5 := Nu.hid hw5
  rw [hw5] at y0 y1 y2 y3 p0 p1 p2 p3
  clear hb5 hb4 hB35 hB5 lb5 hw5 hA' hI' n1 n2 n3 n4 n5 HLB3 HA3 HI HP3 x0 x1 x2 x3 x4 x5
  go_wp2_with (go_at_call 9; rw [← HW5.out]; refine HSM.out.mono ?_; rintro e w6 ⟨rfl, hb6⟩; have HB6 := Nu.hid hb6; clear hb6)
  go_ret
  exact ⟨rfl, HBF.out.trans (HB6.out.mono HBF.out.size)⟩

set_option maxRecDepth 100000 in
/-- What the walk gives, for every argument and every world. -/
theorem contract (H : Type) (enc : TypeId × Value → H) (W : World) (base : Nat) (args : Array Value) (ds gs : List (DataW H)) (before : List MemPlace)
    (hval : ∀ (j : Nat) t v, Tryz.f3.params[j]? = some t → args[j]? = some v → Value.okWide Tryz.prog W .any base t v)
    (hW : DataW.Whole enc Tryz.prog Tryz.f3.params.toList Rows.lowOfSpec.vars false W args.toList ds gs before)
    (hsz : (DataW.weightsEach Tryz.prog (Tryz.f3.params.toList ++ (OpenSpec.ofChange Rows.lowOfSpec).bare.plain.varTypes Tryz.prog) (ds ++ gs)).all (· ≤ reachBytes) = true)
    :
    Calls Tryz.prog 3 args W fun e W' => ∃ v, e = .returned v ∧ Rows.lowOfSpec.post enc Tryz.prog Tryz.f3 false true false false W args v W' := by
  have hW' := hW
  obtain ⟨p, q, hA0, hV, rfl, hfz, hnd⟩ := hW
  have hA : DataW.TrodAll enc Tryz.prog W 0 (fun _ => true) true Tryz.f3.params.toList args.toList ds p := hA0
  rw [Tryz.params3] at hA hval hsz
  obtain ⟨v0, vs0, d0, ds0, p0, q0, hargs, rfl, rfl, h0, r0⟩ := trodAll_cons hA
  obtain ⟨v1, vs1, d1, ds1, p1, q1, rfl, rfl, rfl, h1, r1⟩ := trodAll_cons r0
  obtain ⟨rfl, rfl, rfl⟩ := trodAll_nil r1
  obtain rfl : args = #[v0, v1] := by cases args; simp_all
  obtain ⟨rfl, rfl⟩ := trodVars_none hV
  have k0 := h0
  have lt0 : ∀ x ∈ p0, x.block < W.heap.size := by obtain ⟨m, hm⟩ := k0; exact DataW.trod_lt m _ _ _ hm
  obtain ⟨n0, a0, cap0, q0, rfl, x0, w0, u0⟩ := graph_of_trod (j := 0) (hval 0 24 v0 rfl rfl) h0 hsz rfl rfl
  have k1 := h1
  have lt1 : ∀ x ∈ p1, x.block < W.heap.size := by obtain ⟨m, hm⟩ := k1; exact DataW.trod_lt m _ _ _ hm
  obtain ⟨f1, s1, rfl, w1, u1⟩ := forest_of_trod (j := 1) (hval 1 27 v1 rfl rfl) h1 hsz rfl rfl
  clear hA0
  refine (walk n0 a0 cap0 q0 f1 s1 W x0 w0 u0 w1 u1).mono fun e W' ⟨he, bel⟩ => ?_
  subst he
  exact ⟨_, rfl, _, _, _, [], _, [], hW', trodAll_mk1 (shut_bool Tryz.underlying4 _), (trodAll_cons_mk (Below.trod laidOut (by kernel_rfl) (of_decide_eq_true (by kernel_rfl)) k0 bel lt0) (trodAll_cons_mk (Below.trod laidOut (by kernel_rfl) (of_decide_eq_true (by kernel_rfl)) k1 bel lt1) trodAll_mk0)), rfl, bel.frame _, fun h => by cases h⟩

theorem laid_met (os : Os) : laidMet Tryz.prog Rows.lowOfRow.laid ((settled os).forCall (fun _ _ => 0) ⟨#[], #[.agg #[.int .i64 0, .slice none 0 0], .agg #[.slice none 0 0, .slice none 0 0, .slice none 0 0, .slice none 0 0]], []⟩).memory :=
  laidMet_of_run' 100 (by kernel_rfl) (by kernel_rfl)
theorem reads (os : Os) {H : Type} (enc : TypeId × Value → H) : ∃ places, DataW.whole enc Tryz.prog ((settled os).forCall (fun _ _ => 0) ⟨#[], #[.agg #[.int .i64 0, .slice none 0 0], .agg #[.slice none 0 0, .slice none 0 0, .slice none 0 0, .slice none 0 0]], []⟩).memory Tryz.f3.params.toList Rows.lowOfSpec.vars false (#[.agg #[.int .i64 0, .slice none 0 0], .agg #[.slice none 0 0, .slice none 0 0, .slice none 0 0, .slice none 0 0]] : Array Value).toList 8 = some ([.agg [.lit (.int .i64 0), .nil], .agg [.nil, .nil, .nil, .nil]], [], places) :=
  ⟨[], by kernel_rfl⟩

set_option maxRecDepth 100000 in
theorem lifted (os : Os) (started : os.Started) (H : Type) (enc : TypeId × Value → H) (F : Stop.Interp) :
    ReturnsInHanded {} Tryz.checked os 3 .any ((OpenSpec.ofChange Rows.lowOfSpec).preRow enc Tryz.prog Tryz.f3 Rows.lowOfRow.domain false Rows.lowOfRow.laid) (((OpenSpec.ofChange Rows.lowOfSpec).at F).post enc Tryz.prog Tryz.f3 false true false false) := by
  obtain ⟨places, hx⟩ := reads os enc
  refine returnsInHanded_of_row (C := Tryz.checked) (s := (OpenSpec.ofChange Rows.lowOfSpec)) own started (by kernel_rfl) Tryz.func3
    (witness_row_at (enc := enc) (C := Tryz.checked) false (settled os) #[.agg #[.int .i64 0, .slice none 0 0], .agg #[.slice none 0 0, .slice none 0 0, .slice none 0 0, .slice none 0 0]] rfl (by kernel_rfl) (by kernel_rfl) (by kernel_rfl)
      (OpenSpec.preRow_of_cond 8 hx (by kernel_rfl) (fun k hk => by cases hk) (by kernel_rfl) (laid_met os))) ?_
  intro W base args ds gs before hval hW _ _ hsz _ _ _
  exact contract H enc W base args ds gs before hval hW hsz 

theorem said : Rows.LowOfSaid :=
  OpenClaim.holds_of_cond 3 Tryz.f3 rfl rfl rfl rfl rfl rfl rfl ⟨rfl, rfl, rfl, rfl, rfl⟩ rfl rfl rfl rfl rfl (by kernel_rfl) Tryz.func3 (by kernel_rfl)
    (of_decide_eq_true (by kernel_rfl)) (by unfold Func.isWrapper; first | (rw [if_pos (by decide +kernel)]; kernel_rfl) | (rw [if_neg (by decide +kernel)]; exact ⟨rfl, rfl⟩))
    (fun os started H enc _ F => by rw [OpenClaim.pre_eq_preRow]; exact lifted os started H enc F)

end lawLOf

theorem lowOf_holds : Rows.LowOfSaid := lawLOf.said

#print axioms lowOf_holds
end Go.Proofs.YtmgoahbloppdmaaGreat
