/-
  Proved: for every graph the law KuraChains answers true, and the graph reads afterwards as before. No condition.
-/
import Derived.Test.YtdhaaodalchpkaaKwG
import Derived.Test.YtdhaaodalchpkaaSiGin
namespace Go.Proofs.Ytdhaaodalchpkaa
open Go.ChangeShapes Go.WideShapes Go.ChangeAt Go.RowKit
namespace lawKuC

set_option maxRecDepth 100000 in
set_option maxHeartbeats 16000000 in
theorem walk (n : Int) (ao : Option Addr) (ca : Nat) (es : List (Int × Int)) (w : World) (_ : -9223372036854775808 ≤ n ∧ n ≤ 9223372036854775807) (hq : PairsIn w ao es.length ca es) (hle : es.length * 16 ≤ 140737488351232) :
    Calls Try.prog 3 #[.agg #[.int .i64 n, .slice ao es.length ca]] w fun e w' => e = .returned (.bool true) ∧ Below w.heap.size w w' := by
  have HG0 : Hid (Gr15 w n ao ca es _) := Nu.hid (.start hq.hat)
  have HP : Hid (∀ a c W, EdgesAt W a es → Calls Try.prog 9 #[.agg #[.int .i64 n, .slice a es.length c]] W (Ku.KcP (Ku.kc n es) W)) := fun a c W h => pchains_is n a c es W h (by omega)
  have HD : Hid (∀ a c W, EdgesAt W a es → Calls Try.prog 11 #[.agg #[.int .i64 n, .slice a es.length c]] W (Ku.KcP (Ku.kc n es) W)) := fun a c W h => dchains_is n a c es W h (by omega)
  have l1 := Ku.kc_small n es
  obtain ⟨⟨L, z⟩, hr⟩ : ∃ r, Ku.kc n es = r := ⟨_, rfl⟩
  rw [hr] at HP HD l1
  have HL1 := Nu.hid l1
  have hle' : es.length * 16 ≤ 140737488355328 := by omega
  clear hq hr l1
  go_enter Try.func3, Try.ntmps3
  go_wp2_with (go_at_call 8; refine (wakes15_any _).mono ?_; rintro e w1 ⟨rfl, hb⟩; refine Hid.out ?_)
  refine Nu.hid ?_
  have G1 := Nu.hid (HG0.out.later hb)
  obtain ⟨x0, x1⟩ := G1.out.cells
  clear hb HG0
  go_wp2_with (first
    | (go_at_call 10; refine (G1.out.copy hle').mono ?_; rintro e w2 ⟨a2, c2, rfl, he2, hb2⟩; have HE := Nu.hid he2; have G2 := Nu.hid (G1.out.later hb2); clear he2 hb2)
    | (go_at_call 9; refine (HP.out _ _ _ HE.out).mono ?_; rintro e w3 ⟨a3, c3, rfl, hs3, hb3⟩; have HL := Nu.hid hs3; have G3 := Nu.hid (G2.out.later hb3); clear hs3 hb3; refine Hid.out ?_))
  refine Nu.hid ?_
  clear x0 x1 HE G1 G2
  obtain ⟨x0, x1⟩ := G3.out.cells
  go_wp2_with (go_at_call 11; refine (HD.out _ _ _ G3.out.edges).mono ?_; rintro e w4 ⟨a4, c4, rfl, hs4, hb4⟩; have HS := Nu.hid (samelists_sees _ _ _ w4 (HL.out.later hb4) hs4 HL1.out.1 HL1.out.2); have G4 := Nu.hid (G3.out.later hb4); clear hs4 hb4; refine Hid.out ?_)
  refine Nu.hid ?_
  clear x0 x1 HL G3
  go_wp2_with (go_at_call 12; refine HS.out.mono ?_; rintro e w5 ⟨rfl, hb5⟩; have HB := Nu.hid (G4.out.later hb5).low; clear hb5)
  go_ret
  exact ⟨rfl, HB.out⟩

set_option maxRecDepth 100000 in
/-- What the walk gives, for every argument and every world. -/
theorem contract (H : Type) (enc : TypeId × Value → H) (W : World) (base : Nat) (args : Array Value) (ds gs : List (DataW H)) (before : List MemPlace)
    (hval : ∀ (j : Nat) t v, Try.f3.params[j]? = some t → args[j]? = some v → Value.okWide Try.prog W .any base t v)
    (hW : DataW.Whole enc Try.prog Try.f3.params.toList Rows.kuraChainsSpec.vars false W args.toList ds gs before)
    (hsz : (DataW.weightsEach Try.prog (Try.f3.params.toList ++ (OpenSpec.ofChange Rows.kuraChainsSpec).bare.plain.varTypes Try.prog) (ds ++ gs)).all (· ≤ reachBytes) = true)
    :
    Calls Try.prog 3 args W fun e W' => ∃ v, e = .returned v ∧ Rows.kuraChainsSpec.post enc Try.prog Try.f3 false true false false W args v W' := by
  have hW' := hW
  obtain ⟨p, q, hA0, hV, rfl, hfz, hnd⟩ := hW
  have hA : DataW.TrodAll enc Try.prog W 0 (fun _ => true) true Try.f3.params.toList args.toList ds p := hA0
  rw [Try.params3] at hA hval hsz
  obtain ⟨v0, vs0, d0, ds0, p0, q0, hargs, rfl, rfl, h0, r0⟩ := trodAll_cons hA
  obtain ⟨rfl, rfl, rfl⟩ := trodAll_nil r0
  obtain rfl : args = #[v0] := by cases args; simp_all
  obtain ⟨rfl, rfl⟩ := trodVars_none hV
  have k0 := h0
  have lt0 : ∀ x ∈ p0, x.block < W.heap.size := by obtain ⟨m, hm⟩ := k0; exact DataW.trod_lt m _ _ _ hm
  obtain ⟨n0, a0, cap0, q0, rfl, x0, w0, u0⟩ := graph_of_trod (j := 0) (hval 0 24 v0 rfl rfl) h0 hsz rfl rfl
  clear hA0
  refine (walk n0 a0 cap0 q0 W x0 w0 u0).mono fun e W' ⟨he, bel⟩ => ?_
  subst he
  exact ⟨_, rfl, _, _, _, [], _, [], hW', trodAll_mk1 (shut_bool Try.underlying4 _), (trodAll_cons_mk (Below.trod laidOut (by kernel_rfl) (of_decide_eq_true (by kernel_rfl)) k0 bel lt0) trodAll_mk0), rfl, bel.frame _, fun h => by cases h⟩

theorem laid_met (os : Os) : laidMet Try.prog Rows.kuraChainsRow.laid ((settled os).forCall (fun _ _ => 0) ⟨#[], #[.agg #[.int .i64 0, .slice none 0 0]], []⟩).memory :=
  laidMet_of_run' 100 (by kernel_rfl) (by kernel_rfl)
theorem reads (os : Os) {H : Type} (enc : TypeId × Value → H) : ∃ places, DataW.whole enc Try.prog ((settled os).forCall (fun _ _ => 0) ⟨#[], #[.agg #[.int .i64 0, .slice none 0 0]], []⟩).memory Try.f3.params.toList Rows.kuraChainsSpec.vars false (#[.agg #[.int .i64 0, .slice none 0 0]] : Array Value).toList 8 = some ([.agg [.lit (.int .i64 0), .nil]], [], places) :=
  ⟨[], by kernel_rfl⟩

set_option maxRecDepth 100000 in
theorem lifted (os : Os) (started : os.Started) (H : Type) (enc : TypeId × Value → H) (F : Stop.Interp) :
    ReturnsInHanded {} Try.checked os 3 .any ((OpenSpec.ofChange Rows.kuraChainsSpec).preRow enc Try.prog Try.f3 Rows.kuraChainsRow.domain false Rows.kuraChainsRow.laid) (((OpenSpec.ofChange Rows.kuraChainsSpec).at F).post enc Try.prog Try.f3 false true false false) := by
  obtain ⟨places, hx⟩ := reads os enc
  refine returnsInHanded_of_row (C := Try.checked) (s := (OpenSpec.ofChange Rows.kuraChainsSpec)) own started (by kernel_rfl) Try.func3
    (witness_row_at (enc := enc) (C := Try.checked) false (settled os) #[.agg #[.int .i64 0, .slice none 0 0]] rfl (by kernel_rfl) (by kernel_rfl) (by kernel_rfl)
      (OpenSpec.preRow_of_cond 8 hx (by kernel_rfl) (fun k hk => by cases hk) (by kernel_rfl) (laid_met os))) ?_
  intro W base args ds gs before hval hW _ _ hsz _ _ _
  exact contract H enc W base args ds gs before hval hW hsz 

theorem said : Rows.KuraChainsSaid :=
  OpenClaim.holds_of_cond 3 Try.f3 rfl rfl rfl rfl rfl rfl rfl ⟨rfl, rfl, rfl, rfl, rfl⟩ rfl rfl rfl rfl rfl (by kernel_rfl) Try.func3 (by kernel_rfl)
    (of_decide_eq_true (by kernel_rfl)) (by unfold Func.isWrapper; first | (rw [if_pos (by decide +kernel)]; kernel_rfl) | (rw [if_neg (by decide +kernel)]; exact ⟨rfl, rfl⟩))
    (fun os started H enc _ F => by rw [OpenClaim.pre_eq_preRow]; exact lifted os started H enc F)

end lawKuC

theorem kuraChains_holds : Rows.KuraChainsSaid := lawKuC.said

#print axioms kuraChains_holds
end Go.Proofs.Ytdhaaodalchpkaa
