/-
  Proved: for every graph and every forest the law DfsValid answers true, and both read afterwards as before. No condition.
-/
import Derived.Test.YtponmjipbcmlhaaDfTwo
import Derived.Test.YtponmjipbcmlhaaDfAwake
import Derived.Test.YtponmjipbcmlhaaDfIn
import Derived.Deep.RegionHeld3
namespace Go.Proofs.Ytponmjipbcmlhaa
open Go.ChangeShapes Go.WideShapes Go.ChangeAt Go.RowKit
namespace lawDValid

set_option maxRecDepth 100000 in
set_option maxHeartbeats 16000000 in
theorem walk (n : Int) (ao : Option Addr) (ca : Nat) (es : List (Int × Int)) (f : For) (s : Df.St) (w : World) (_ : -9223372036854775808 ≤ n ∧ n ≤ 9223372036854775807) (hq : PairsIn w ao es.length ca es) (hl : es.length * 16 ≤ 140737488351232) (hF : LstF w f s) (_hI : In64F s) :
    Calls Try.prog 5 #[.agg #[.int .i64 n, .slice ao es.length ca], f.val s] w fun e w' => e = .returned (.bool true) ∧ Below w.heap.size w w' := by
  obtain ⟨a1, a2, a3, a4, c1, c2, c3, c4⟩ := f
  change Calls _ _ #[_, .agg #[.slice a1 s.par.length c1, .slice a2 s.hei.length c2, .slice a3 s.ord.length c3, .slice a4 s.ori.length c4]] _ _
  obtain ⟨W, hW⟩ : ∃ W, W = (w.alloc (.cells #[.int .i64 n, .slice ao es.length ca] 24)).alloc (.cells #[.slice a1 s.par.length c1, .slice a2 s.hei.length c2, .slice a3 s.ord.length c3, .slice a4 s.ori.length c4] 28) := ⟨_, rfl⟩
  have hB0 : Below w.heap.size w W := by rw [hW]; exact ((Below.refl _ _).alloc (Nat.le_refl _) _).alloc (by simp) _
  have g1 : W.heap[w.heap.size]? = some (.cells #[.int .i64 n, .slice ao es.length ca] 24 (0, 0)) := by
    rw [hW, Below.heap_alloc _ _ _ (by simp)]
    exact heap_alloc_new w _
  have g2 : W.heap[w.heap.size + 1]? = some (.cells #[.slice a1 s.par.length c1, .slice a2 s.hei.length c2, .slice a3 s.ord.length c3, .slice a4 s.ori.length c4] 28 (0, 0)) := by
    rw [hW]
    exact alloc_at (by simp)
  have lt1 := lt_of_block g1
  have lt2 := lt_of_block g2
  have hat := hq.hat.later hB0
  have HFW := Nu.hid (hF.later hB0)
  have HBOX : Hid (∀ V, Below W.heap.size W V → V.cell? ⟨w.heap.size, 0, none⟩ = some (.int .i64 n) ∧ V.cell? ⟨w.heap.size, 1, none⟩ = some (.slice ao es.length ca) ∧ V.cell? ⟨w.heap.size + 1, 0, none⟩ = some (.slice a1 s.par.length c1) ∧ V.cell? ⟨w.heap.size + 1, 1, none⟩ = some (.slice a2 s.hei.length c2) ∧ V.cell? ⟨w.heap.size + 1, 2, none⟩ = some (.slice a3 s.ord.length c3) ∧ V.cell? ⟨w.heap.size + 1, 3, none⟩ = some (.slice a4 s.ori.length c4)) := fun V hV => by
    obtain ⟨x0, x1, -⟩ := pair_cells ((hV.block w.heap.size lt1).trans g1)
    obtain ⟨q0, q1, q2, q3, -⟩ := four_cells ((hV.block (w.heap.size + 1) lt2).trans g2)
    exact ⟨x0, x1, q0, q1, q2, q3⟩
  have HCG : Hid (∀ V, Below W.heap.size W V → Calls Try.prog 15 #[.agg #[.int .i64 n, .slice ao es.length ca]] V fun e V' => ∃ gb c, e = .returned (.agg #[.int .i64 n, .slice (some ⟨gb, 0, none⟩) es.length c]) ∧ EdgesAt V' (some ⟨gb, 0, none⟩) es ∧ Below V.heap.size V V') := fun V hV => copyG_at n ao ca es V (hat.later hV) (fun h => (hq.hnil h).2) (by omega)
  have HCF : Hid (∀ V, Below W.heap.size W V → Calls Try.prog 16 #[.agg #[.slice a1 s.par.length c1, .slice a2 s.hei.length c2, .slice a3 s.ord.length c3, .slice a4 s.ori.length c4]] V fun e V' => ∃ a1 a2 a3 a4 c1 c2 c3 c4, e = .returned (.agg #[.slice a1 s.par.length c1, .slice a2 s.hei.length c2, .slice a3 s.ord.length c3, .slice a4 s.ori.length c4]) ∧ LstF V' ⟨a1, a2, a3, a4, c1, c2, c3, c4⟩ s ∧ Below V.heap.size V V') := fun V hV => copyF_at ⟨a1, a2, a3, a4, c1, c2, c3, c4⟩ s V (HFW.out.later hV)
  have HAW := Nu.hid (awake_any W)
  have hbool : ∃ bb, (∀ V gb c b1 b2 b3 b4 d1 d2 d3 d4, EdgesAt V (some ⟨gb, 0, none⟩) es → LstF V ⟨b1, b2, b3, b4, d1, d2, d3, d4⟩ s → Calls Try.prog 14 #[.agg #[.int .i64 n, .slice (some ⟨gb, 0, none⟩) es.length c], .agg #[.slice b1 s.par.length d1, .slice b2 s.hei.length d2, .slice b3 s.ord.length d3, .slice b4 s.ori.length d4]] V fun e V' => e = .returned (.bool bb) ∧ Below V.heap.size V V') ∧ (∀ V, Below W.heap.size W V → Calls Try.prog 19 #[.agg #[.int .i64 n, .slice ao es.length ca], .agg #[.slice a1 s.par.length c1, .slice a2 s.hei.length c2, .slice a3 s.ord.length c3, .slice a4 s.ori.length c4]] V fun e V' => e = .returned (.bool bb) ∧ Below V.heap.size V V') := by
    by_cases hvf : IsVF n es s
    · exact ⟨true, fun V gb c b1 b2 b3 b4 d1 d2 d3 d4 h1 h2 => BoolPost.yes (dvalid_any n _ c es ⟨b1, b2, b3, b4, d1, d2, d3, d4⟩ s V h1 (by omega) h2) hvf, fun V hV => BoolPost.yes (rdvalid_any n ao ca es ⟨a1, a2, a3, a4, c1, c2, c3, c4⟩ s V (hat.later hV) (by omega) (HFW.out.later hV)) hvf⟩
    · exact ⟨false, fun V gb c b1 b2 b3 b4 d1 d2 d3 d4 h1 h2 => BoolPost.no (dvalid_any n _ c es ⟨b1, b2, b3, b4, d1, d2, d3, d4⟩ s V h1 (by omega) h2) hvf, fun V hV => BoolPost.no (rdvalid_any n ao ca es ⟨a1, a2, a3, a4, c1, c2, c3, c4⟩ s V (hat.later hV) (by omega) (HFW.out.later hV)) hvf⟩
  obtain ⟨bb, hdv, hrv⟩ := hbool
  have HDV := Nu.hid hdv
  have HRV := Nu.hid hrv
  have HWW := Nu.hid hW
  have HB0 := Nu.hid hB0
  clear hF g1 g2 hB0 hW hdv hrv hat hq
  cases bb <;>
  · go_enter Try.func5, Try.ntmps5
    go_wp2_with (go_at_call 9; rw [← HWW.out]; refine HAW.out.mono ?_; rintro e w1 ⟨rfl, hb1⟩; have HB1 := Nu.hid hb1; clear hb1)
    have hbd : Below W.heap.size W w1.drew := HB1.out.drew
    obtain ⟨x0, x1, x2, x3, x4, x5⟩ := HBOX.out w1 HB1.out
    have hsz := HB1.out.size
    go_region_held3 (fun V => V.cell? ⟨w.heap.size, 0, none⟩ = some (.int .i64 n) ∧ V.cell? ⟨w.heap.size, 1, none⟩ = some (.slice ao es.length ca) ∧ V.cell? ⟨w.heap.size + 1, 0, none⟩ = some (.slice a1 s.par.length c1) ∧ V.cell? ⟨w.heap.size + 1, 1, none⟩ = some (.slice a2 s.hei.length c2) ∧ V.cell? ⟨w.heap.size + 1, 2, none⟩ = some (.slice a3 s.ord.length c3) ∧ V.cell? ⟨w.heap.size + 1, 3, none⟩ = some (.slice a4 s.ori.length c4))
      (exact HBOX.out _ (by first | assumption | exact hbd))
      ((first
        | (go_at_call 15; refine (HCG.out _ (by first | assumption | exact hbd)).mono ?_; rintro e V1 ⟨gb, c, rfl, hE1, hv1⟩; have hb1 : Below W.heap.size W V1 := Below.trans (by first | assumption | exact hbd) (hv1.mono (Below.size (by first | assumption | exact hbd))))
        | (go_at_call 16; refine (HCF.out _ (by first | assumption | exact hbd)).mono ?_; rintro e V2 ⟨b1, b2, b3, b4, d1, d2, d3, d4, rfl, hl1, hv2⟩; have hE2 : EdgesAt V2 _ es := EdgesAt.later (by assumption) hv2; have hb2 : Below W.heap.size W V2 := Below.trans (by first | assumption | exact hbd) (hv2.mono (Below.size (by first | assumption | exact hbd))))
        | (go_at_call 14; refine (HDV.out _ _ _ _ _ _ _ _ _ _ _ (by assumption) (by assumption)).mono ?_; rintro e V3 ⟨rfl, hv3⟩; have hb3 : Below W.heap.size W V3 := Below.trans (by first | assumption | exact hbd) (hv3.mono (Below.size (by first | assumption | exact hbd))))
        | (go_at_call 19; refine (HRV.out _ (by first | assumption | exact hbd)).mono ?_; rintro e V4 ⟨rfl, hv4⟩; have hb4 : Below W.heap.size W V4 := Below.trans (by first | assumption | exact hbd) (hv4.mono (Below.size (by first | assumption | exact hbd))))))
    all_goals
      go_wp2
      go_ret
      exact ⟨rfl, HB0.out.trans (hb4.mono HB0.out.size)⟩

set_option maxRecDepth 100000 in
/-- What the walk gives, for every argument and every world. -/
theorem contract (H : Type) (enc : TypeId × Value → H) (W : World) (base : Nat) (args : Array Value) (ds gs : List (DataW H)) (before : List MemPlace)
    (hval : ∀ (j : Nat) t v, Try.f5.params[j]? = some t → args[j]? = some v → Value.okWide Try.prog W .any base t v)
    (hW : DataW.Whole enc Try.prog Try.f5.params.toList Rows.dfsValidSpec.vars false W args.toList ds gs before)
    (hsz : (DataW.weightsEach Try.prog (Try.f5.params.toList ++ (OpenSpec.ofChange Rows.dfsValidSpec).bare.plain.varTypes Try.prog) (ds ++ gs)).all (· ≤ reachBytes) = true)
    :
    Calls Try.prog 5 args W fun e W' => ∃ v, e = .returned v ∧ Rows.dfsValidSpec.post enc Try.prog Try.f5 false true false false W args v W' := by
  have hW' := hW
  obtain ⟨p, q, hA0, hV, rfl, hfz, hnd⟩ := hW
  have hA : DataW.TrodAll enc Try.prog W 0 (fun _ => true) true Try.f5.params.toList args.toList ds p := hA0
  rw [Try.params5] at hA hval hsz
  obtain ⟨v0, vs0, d0, ds0, p0, q0, hargs, rfl, rfl, h0, r0⟩ := trodAll_cons hA
  obtain ⟨v1, vs1, d1, ds1, p1, q1, rfl, rfl, rfl, h1, r1⟩ := trodAll_cons r0
  obtain ⟨rfl, rfl, rfl⟩ := trodAll_nil r1
  obtain rfl : args = #[v0, v1] := by cases args; simp_all
  obtain ⟨rfl, rfl⟩ := trodVars_none hV
  have k0 := h0
  have lt0 : ∀ x ∈ p0, x.block < W.heap.size := by obtain ⟨m, hm⟩ := k0; exact DataW.trod_lt m _ _ _ hm
  obtain ⟨n0, a0, cap0, q0, rfl, x0, w0, u0⟩ := graph_of_trod (j := 0) (hval 0 24 v0 rfl rfl) h0 hsz rfl rfl
  have k1 := h1
  have lt1 : ∀ x ∈ p1, x.block < W.heap.size := by obtain ⟨m, hm⟩ := k1; exact DataW.trod_lt m _ _ _ hm
  obtain ⟨f1, s1, rfl, w1, u1⟩ := forest_of_trod (j := 1) (hval 1 28 v1 rfl rfl) h1 hsz rfl rfl
  clear hA0
  refine (walk n0 a0 cap0 q0 f1 s1 W x0 w0 u0 w1 u1).mono fun e W' ⟨he, bel⟩ => ?_
  subst he
  exact ⟨_, rfl, _, _, _, [], _, [], hW', trodAll_mk1 (shut_bool Try.underlying4 _), (trodAll_cons_mk (Below.trod laidOut (by kernel_rfl) (of_decide_eq_true (by kernel_rfl)) k0 bel lt0) (trodAll_cons_mk (Below.trod laidOut (by kernel_rfl) (of_decide_eq_true (by kernel_rfl)) k1 bel lt1) trodAll_mk0)), rfl, bel.frame _, fun h => by cases h⟩

theorem laid_met (os : Os) : laidMet Try.prog Rows.dfsValidRow.laid ((settled os).forCall (fun _ _ => 0) ⟨#[], #[.agg #[.int .i64 0, .slice none 0 0], .agg #[.slice none 0 0, .slice none 0 0, .slice none 0 0, .slice none 0 0]], []⟩).memory :=
  laidMet_of_run' 100 (by kernel_rfl) (by kernel_rfl)
theorem reads (os : Os) {H : Type} (enc : TypeId × Value → H) : ∃ places, DataW.whole enc Try.prog ((settled os).forCall (fun _ _ => 0) ⟨#[], #[.agg #[.int .i64 0, .slice none 0 0], .agg #[.slice none 0 0, .slice none 0 0, .slice none 0 0, .slice none 0 0]], []⟩).memory Try.f5.params.toList Rows.dfsValidSpec.vars false (#[.agg #[.int .i64 0, .slice none 0 0], .agg #[.slice none 0 0, .slice none 0 0, .slice none 0 0, .slice none 0 0]] : Array Value).toList 8 = some ([.agg [.lit (.int .i64 0), .nil], .agg [.nil, .nil, .nil, .nil]], [], places) :=
  ⟨[], by kernel_rfl⟩

set_option maxRecDepth 100000 in
theorem lifted (os : Os) (started : os.Started) (H : Type) (enc : TypeId × Value → H) (F : Stop.Interp) :
    ReturnsInHanded {} Try.checked os 5 .any ((OpenSpec.ofChange Rows.dfsValidSpec).preRow enc Try.prog Try.f5 Rows.dfsValidRow.domain false Rows.dfsValidRow.laid) (((OpenSpec.ofChange Rows.dfsValidSpec).at F).post enc Try.prog Try.f5 false true false false) := by
  obtain ⟨places, hx⟩ := reads os enc
  refine returnsInHanded_of_row (C := Try.checked) (s := (OpenSpec.ofChange Rows.dfsValidSpec)) own started (by kernel_rfl) Try.func5
    (witness_row_at (enc := enc) (C := Try.checked) false (settled os) #[.agg #[.int .i64 0, .slice none 0 0], .agg #[.slice none 0 0, .slice none 0 0, .slice none 0 0, .slice none 0 0]] rfl (by kernel_rfl) (by kernel_rfl) (by kernel_rfl)
      (OpenSpec.preRow_of_cond 8 hx (by kernel_rfl) (fun k hk => by cases hk) (by kernel_rfl) (laid_met os))) ?_
  intro W base args ds gs before hval hW _ _ hsz _ _ _
  exact contract H enc W base args ds gs before hval hW hsz 

theorem said : Rows.DfsValidSaid :=
  OpenClaim.holds_of_cond 5 Try.f5 rfl rfl rfl rfl rfl rfl rfl ⟨rfl, rfl, rfl, rfl, rfl⟩ rfl rfl rfl rfl rfl (by kernel_rfl) Try.func5 (by kernel_rfl)
    (of_decide_eq_true (by kernel_rfl)) (by unfold Func.isWrapper; first | (rw [if_pos (by decide +kernel)]; kernel_rfl) | (rw [if_neg (by decide +kernel)]; exact ⟨rfl, rfl⟩))
    (fun os started H enc _ F => by rw [OpenClaim.pre_eq_preRow]; exact lifted os started H enc F)

end lawDValid

theorem dfsValid_holds : Rows.DfsValidSaid := lawDValid.said

#print axioms dfsValid_holds
end Go.Proofs.Ytponmjipbcmlhaa
