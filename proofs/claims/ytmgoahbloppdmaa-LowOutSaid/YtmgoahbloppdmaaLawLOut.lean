/-
  Proved: for every graph the law LowOut answers true, and it reads afterwards as before. No condition.
-/
import Derived.Test.YtmgoahbloppdmaaLoYes
import Derived.Test.YtmgoahbloppdmaaMg33
namespace Go.Proofs.Ytmgoahbloppdmaa
open Go.ChangeShapes Go.WideShapes Go.ChangeAt Go.RowKit
namespace lawLOut

set_option maxRecDepth 100000 in
set_option maxHeartbeats 16000000 in
theorem no (n : Int) (ao : Option Addr) (ca : Nat) (es : List (Int × Int)) (w : World) (hat : EdgesAt w ao es) (hl : es.length * 16 ≤ 140737488351232) (hv : Si.valid n es = false) :
    Calls Try.prog 5 #[.agg #[.int .i64 n, .slice ao es.length ca]] w fun e w' => e = .returned (.bool true) ∧ Below w.heap.size w w' := by
  obtain ⟨W, hW⟩ : ∃ W, W = w.alloc (.cells #[.int .i64 n, .slice ao es.length ca] 24) := ⟨_, rfl⟩
  have hB0 : Below w.heap.size w W := by rw [hW]; exact (Below.refl _ _).alloc (Nat.le_refl _) _
  have g1 : W.heap[w.heap.size]? = some (.cells #[.int .i64 n, .slice ao es.length ca] 24 (0, 0)) := by rw [hW]; exact heap_alloc_new w _
  have lt1 := lt_of_block g1
  have hatW := hat.later hB0
  have HBOX : Hid (∀ V, Below W.heap.size W V → V.cell? ⟨w.heap.size, 0, none⟩ = some (.int .i64 n) ∧ V.cell? ⟨w.heap.size, 1, none⟩ = some (.slice ao es.length ca)) := fun V hV => by
    obtain ⟨x0, x1, -⟩ := pair_cells ((hV.block w.heap.size lt1).trans g1)
    exact ⟨x0, x1⟩
  have HFX := Nu.hid (fixed8_any W)
  have HWK : Hid (∀ V, Below W.heap.size W V → _) := fun V hV => walk_no (ca := ca) hv (hatW.later hV) (by omega)
  have HOF : Hid (∀ V a1 a2 a3 a4 c1 c2 c3 c4, Below W.heap.size W V → LstF V ⟨a1, a2, a3, a4, c1, c2, c3, c4⟩ ⟨[], [], [], []⟩ → _) := fun V a1 a2 a3 a4 c1 c2 c3 c4 hV hF => of_no (ca := ca) hv (hatW.later hV) (by omega) hF
  have HWW := Nu.hid hW
  have HB0 := Nu.hid hB0
  clear hB0 g1 hW hat hatW hv
  go_enter Try.func5, Try.ntmps5
  go_wp2_with (go_at_call 6; rw [← HWW.out]; refine HFX.out.mono ?_; rintro e w1 ⟨rfl, hb1⟩; have HB1 := Nu.hid hb1; have hs1 := hb1.size; obtain ⟨x0, x1⟩ := HBOX.out _ hb1; clear hb1; refine Hid.out ?_)
  refine Nu.hid ?_
  go_wp2_with (go_at_call 7; refine (HWK.out _ HB1.out).mono ?_; rintro e w2 ⟨a1, a2, a3, a4, c1, c2, c3, c4, rfl, hF, hb2⟩; refine Hid.out ?_)
  refine Nu.hid ?_
  have hB2 : Below W.heap.size W w2 := HB1.out.trans (hb2.mono HB1.out.size)
  obtain ⟨w3, hw3⟩ : ∃ w3, w3 = w2.alloc (.cells #[.slice a1 0 c1, .slice a2 0 c2, .slice a3 0 c3, .slice a4 0 c4] 28) := ⟨_, rfl⟩
  have hb3 : Below w2.heap.size w2 w3 := by rw [hw3]; exact (Below.refl _ _).alloc (Nat.le_refl _) _
  have hB3 : Below W.heap.size W w3 := hB2.trans (hb3.mono hB2.size)
  have hs2 := hB2.size
  have lb3 : w3.heap[w2.heap.size]? = some (.cells #[.slice a1 0 c1, .slice a2 0 c2, .slice a3 0 c3, .slice a4 0 c4] 28 (0, 0)) := by rw [hw3]; exact heap_alloc_new w2 _
  obtain ⟨y0, y1, y2, y3, -⟩ := four_cells lb3
  obtain ⟨x0, x1⟩ := HBOX.out _ hB3
  have HO3 := Nu.hid (HOF.out w3 a1 a2 a3 a4 c1 c2 c3 c4 hB3 (hF.later hb3))
  have HB3 := Nu.hid hB3
  have HW3 := Nu.hid hw3
  rw [hw3] at x0 x1 y0 y1 y2 y3
  clear hb3 hb2 hB2 hB3 hF lb3 hw3 HOF HWK
  go_wp2_with (go_at_call 8; rw [← HW3.out]; refine HO3.out.mono ?_; rintro e w4 ⟨b1, b2, b3, b4, d1, d2, d3, d4, rfl, hb4⟩; have HB4 := Nu.hid hb4; clear hb4)
  go_ret
  refine ⟨rfl, HB0.out.trans (Below.mono ?_ HB0.out.size)⟩
  exact HB3.out.trans ((HB4.out.alloc HB4.out.size _).mono HB3.out.size)

theorem walk (n : Int) (ao : Option Addr) (ca : Nat) (es : List (Int × Int)) (w : World) (_ : -9223372036854775808 ≤ n ∧ n ≤ 9223372036854775807) (hq : PairsIn w ao es.length ca es) (hl : es.length * 16 ≤ 140737488351232) :
    Calls Try.prog 5 #[.agg #[.int .i64 n, .slice ao es.length ca]] w fun e w' => e = .returned (.bool true) ∧ Below w.heap.size w w' := by
  cases hv : Si.valid n es
  · exact no n ao ca es w hq.hat hl hv
  · have hV := Si.valid_iff.1 hv
    obtain ⟨m, rfl⟩ : ∃ m : Nat, n = (m : Int) := ⟨n.toNat, by have := hV.lo; omega⟩
    exact yes m ao ca es w hq.hat hV

set_option maxRecDepth 100000 in
/-- What the walk gives, for every argument and every world. -/
theorem contract (H : Type) (enc : TypeId × Value → H) (W : World) (base : Nat) (args : Array Value) (ds gs : List (DataW H)) (before : List MemPlace)
    (hval : ∀ (j : Nat) t v, Try.f5.params[j]? = some t → args[j]? = some v → Value.okWide Try.prog W .any base t v)
    (hW : DataW.Whole enc Try.prog Try.f5.params.toList Rows.lowOutSpec.vars false W args.toList ds gs before)
    (hsz : (DataW.weightsEach Try.prog (Try.f5.params.toList ++ (OpenSpec.ofChange Rows.lowOutSpec).bare.plain.varTypes Try.prog) (ds ++ gs)).all (· ≤ reachBytes) = true)
    :
    Calls Try.prog 5 args W fun e W' => ∃ v, e = .returned v ∧ Rows.lowOutSpec.post enc Try.prog Try.f5 false true false false W args v W' := by
  have hW' := hW
  obtain ⟨p, q, hA0, hV, rfl, hfz, hnd⟩ := hW
  have hA : DataW.TrodAll enc Try.prog W 0 (fun _ => true) true Try.f5.params.toList args.toList ds p := hA0
  rw [Try.params5] at hA hval hsz
  obtain ⟨v0, vs0, d0, ds0, p0, q0, hargs, rfl, rfl, h0, r0⟩ := trodAll_cons hA
  obtain ⟨rfl, rfl, rfl⟩ := trodAll_nil r0
  obtain rfl : args = #[v0] := by cases args; simp_all
  obtain ⟨rfl, rfl⟩ := trodVars_none hV
  have k0 := h0
  have lt0 : ∀ x ∈ p0, x.block < W.heap.size := by obtain ⟨m, hm⟩ := k0; exact DataW.trod_lt m _ _ _ hm
  obtain ⟨n0, a0, cap0, q0, rfl, x0, w0, u0⟩ := graph_of_trod (j := 0) (hval 0 24 v0 rfl rfl) h0 hsz rfl rfl
  clear hA0
  refine (walk n0 a0 cap0 q0 W x0 w0 u0).mono fun e W' ⟨he, bel⟩ => ?_
  subst he
  exact ⟨_, rfl, _, _, _, [], _, [], hW', trodAll_mk1 (shut_bool Try.underlying4 _), (trodAll_cons_mk (Below.trod laidOut (by kernel_rfl) (of_decide_eq_true (by kernel_rfl)) k0 bel lt0) trodAll_mk0), rfl, bel.frame _, fun h => by cases h⟩

theorem laid_met (os : Os) : laidMet Try.prog Rows.lowOutRow.laid ((settled os).forCall (fun _ _ => 0) ⟨#[], #[.agg #[.int .i64 0, .slice none 0 0]], []⟩).memory :=
  laidMet_of_run' 100 (by kernel_rfl) (by kernel_rfl)
theorem reads (os : Os) {H : Type} (enc : TypeId × Value → H) : ∃ places, DataW.whole enc Try.prog ((settled os).forCall (fun _ _ => 0) ⟨#[], #[.agg #[.int .i64 0, .slice none 0 0]], []⟩).memory Try.f5.params.toList Rows.lowOutSpec.vars false (#[.agg #[.int .i64 0, .slice none 0 0]] : Array Value).toList 8 = some ([.agg [.lit (.int .i64 0), .nil]], [], places) :=
  ⟨[], by kernel_rfl⟩

set_option maxRecDepth 100000 in
theorem lifted (os : Os) (started : os.Started) (H : Type) (enc : TypeId × Value → H) (F : Stop.Interp) :
    ReturnsInHanded {} Try.checked os 5 .any ((OpenSpec.ofChange Rows.lowOutSpec).preRow enc Try.prog Try.f5 Rows.lowOutRow.domain false Rows.lowOutRow.laid) (((OpenSpec.ofChange Rows.lowOutSpec).at F).post enc Try.prog Try.f5 false true false false) := by
  obtain ⟨places, hx⟩ := reads os enc
  refine returnsInHanded_of_row (C := Try.checked) (s := (OpenSpec.ofChange Rows.lowOutSpec)) own started (by kernel_rfl) Try.func5
    (witness_row_at (enc := enc) (C := Try.checked) false (settled os) #[.agg #[.int .i64 0, .slice none 0 0]] rfl (by kernel_rfl) (by kernel_rfl) (by kernel_rfl)
      (OpenSpec.preRow_of_cond 8 hx (by kernel_rfl) (fun k hk => by cases hk) (by kernel_rfl) (laid_met os))) ?_
  intro W base args ds gs before hval hW _ _ hsz _ _ _
  exact contract H enc W base args ds gs before hval hW hsz 

theorem said : Rows.LowOutSaid :=
  OpenClaim.holds_of_cond 5 Try.f5 rfl rfl rfl rfl rfl rfl rfl ⟨rfl, rfl, rfl, rfl, rfl⟩ rfl rfl rfl rfl rfl (by kernel_rfl) Try.func5 (by kernel_rfl)
    (of_decide_eq_true (by kernel_rfl)) (by unfold Func.isWrapper; first | (rw [if_pos (by decide +kernel)]; kernel_rfl) | (rw [if_neg (by decide +kernel)]; exact ⟨rfl, rfl⟩))
    (fun os started H enc _ F => by rw [OpenClaim.pre_eq_preRow]; exact lifted os started H enc F)

end lawLOut

theorem lowOut_holds : Rows.LowOutSaid := lawLOut.said

#print axioms lowOut_holds
end Go.Proofs.Ytmgoahbloppdmaa
