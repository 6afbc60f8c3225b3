/-
  Proved: for every two numbers the law CompsNil answers true. No condition.
-/
import Derived.Test.YtoaaihbeehpgfaaCoFixed
import Derived.Test.YtoaaihbeehpgfaaCoGrp
import Derived.Test.YtoaaihbeehpgfaaKin
namespace Go.Proofs.Ytoaaihbeehpgfaa
open Go.ChangeShapes Go.WideShapes Go.ChangeAt Go.RowKit
namespace lawNil

theorem in_none (x : Int) : ¬ Co.isIn 0 x := fun h => by unfold Co.isIn at h; omega

set_option maxRecDepth 100000 in
set_option maxHeartbeats 8000000 in
theorem walk (a b : Int) (w : World) (_ : (Lit.int .i64 a).wf = true) (_ : (Lit.int .i64 b).wf = true) : Calls Try.prog 8 #[.int .i64 a, .int .i64 b] w fun e w' => e = .returned (.bool true) ∧ Below w.heap.size w w' := by
  have hz : ∀ W, IsSets W none 0 (fun x => x) := fun _ => .inl ⟨rfl, rfl⟩
  have hj : ∀ W, Calls Try.prog 15 #[.pointer none, .int .i64 a, .int .i64 b] W fun e w' => e = .returned (.bool false) ∧ Below W.heap.size W w' := fun W => by
    have := (join_any none 0 (fun x => x) a b W rfl).mono (R' := fun e w' => e = .returned (.bool false) ∧ Below W.heap.size W w') (by
      rintro e w' ⟨h1, _, h3⟩
      refine ⟨?_, h3.below (Nat.le_refl _) (fun k hk => hk.elim)⟩
      rw [h1]
      unfold Co.apart
      rw [decide_eq_false (fun h => in_none a h.1)])
    exact this
  have hl : ∀ W, Calls Try.prog 12 #[.pointer none, .int .i64 a] W fun e w' => e = .returned (.int .i64 (-1)) ∧ ∃ k, w' = W.drewN k := fun W => by
    have := least_any none 0 (fun x => x) a W (hz W)
    unfold Co.leastI at this
    rw [if_neg (in_none a)] at this
    exact this
  have hs : ∀ W, Calls Try.prog 28 #[.pointer none, .int .i64 a, .int .i64 a] W fun e w' => e = .returned (.bool false) ∧ ∃ k, w' = W.drewN k := fun W => by
    have := same_any none 0 (fun x => x) a a W (hz W)
    unfold Co.sameI at this
    rw [decide_eq_false (fun h => in_none a h.1)] at this
    exact this
  have hi : ∀ W, Calls Try.prog 29 #[.pointer none, .int .i64 a] W fun e w' => e = .returned (.int .i64 0) ∧ ∃ k, w' = W.drewN k := fun W => by
    have := size_any none 0 (fun x => x) a W (hz W)
    unfold Co.sizeI at this
    rw [if_neg (in_none a)] at this
    exact this
  have hc : ∀ W, Calls Try.prog 11 #[.pointer none] W fun e w' => e = .returned (.int .i64 0) ∧ w' = W := fun W => count_any none 0 (fun x => x) W (hz W)
  have hg : ∀ W, Calls Try.prog 19 #[.pointer none] W fun e w' => ∃ ao c, e = .returned (.slice ao 0 c) ∧ Below W.heap.size W w' := fun W => (groups_any none 0 (fun x => x) W (hz W)).mono (by
    rintro e w' ⟨v, vs, rfl, h1, h2⟩
    obtain ⟨ao, c, rfl⟩ := row_shape h1
    exact ⟨ao, c, rfl, h2⟩)
  have HJ := Nu.hid hj
  have HL := Nu.hid hl
  have HS := Nu.hid hs
  have HI := Nu.hid hi
  have HC := Nu.hid hc
  have HG := Nu.hid hg
  clear hz hj hl hs hi hc hg
  go_enter Try.func8, Try.ntmps8
  go_wp2_with (first
    | (go_at_call 10; refine (fixed_any _).mono ?_; rintro e w1 ⟨rfl, hb1⟩; have HB1 := Nu.hid hb1; clear hb1)
    | (go_at_call 15; refine (HJ.out _).mono ?_; rintro e w2 ⟨rfl, hb2⟩; have HB2 := Nu.hid hb2; clear hb2)
    | (go_at_call 12; refine (HL.out _).mono ?_; rintro e w3 ⟨rfl, k3, rfl⟩)
    | (go_at_call 28; refine (HS.out _).mono ?_; rintro e w3 ⟨rfl, k4, rfl⟩)
    | (go_at_call 29; refine (HI.out _).mono ?_; rintro e w3 ⟨rfl, k5, rfl⟩)
    | (go_at_call 11; refine (HC.out _).mono ?_; rintro e w3 ⟨rfl, rfl⟩)
    | (go_at_call 19; refine (HG.out _).mono ?_; rintro e w3 ⟨ao, c, rfl, hb3⟩; have HB3 := Nu.hid hb3; clear hb3))
  go_ret
  have b2 := HB1.out.trans (HB2.out.mono HB1.out.size)
  refine ⟨rfl, Below.trans (below_drewN b2 _) (HB3.out.mono ?_)⟩
  exact b2.size

set_option maxRecDepth 100000 in
/-- What the walk gives, for every argument and every world. -/
theorem contract (H : Type) (enc : TypeId × Value → H) (W : World) (base : Nat) (args : Array Value) (ds gs : List (DataW H)) (before : List MemPlace)
    (hval : ∀ (j : Nat) t v, Try.f8.params[j]? = some t → args[j]? = some v → Value.okWide Try.prog W .any base t v)
    (hW : DataW.Whole enc Try.prog Try.f8.params.toList Rows.compsNilSpec.vars false W args.toList ds gs before)
    (hsz : (DataW.weightsEach Try.prog (Try.f8.params.toList ++ (OpenSpec.ofChange Rows.compsNilSpec).bare.plain.varTypes Try.prog) (ds ++ gs)).all (· ≤ reachBytes) = true)
    :
    Calls Try.prog 8 args W fun e W' => ∃ v, e = .returned v ∧ Rows.compsNilSpec.post enc Try.prog Try.f8 false true false false W args v W' := by
  have hW' := hW
  obtain ⟨p, q, hA0, hV, rfl, hfz, hnd⟩ := hW
  have hA : DataW.TrodAll enc Try.prog W 0 (fun _ => true) true Try.f8.params.toList args.toList ds p := hA0
  rw [Try.params8] at hA hval hsz
  obtain ⟨v0, vs0, d0, ds0, p0, q0, hargs, rfl, rfl, h0, r0⟩ := trodAll_cons hA
  obtain ⟨v1, vs1, d1, ds1, p1, q1, rfl, rfl, rfl, h1, r1⟩ := trodAll_cons r0
  obtain ⟨rfl, rfl, rfl⟩ := trodAll_nil r1
  obtain rfl : args = #[v0, v1] := by cases args; simp_all
  obtain ⟨rfl, rfl⟩ := trodVars_none hV
  obtain ⟨a0, rfl, rfl, rfl, w0⟩ := open_int Try.underlying3 (hval 0 3 v0 rfl rfl) h0
  obtain ⟨a1, rfl, rfl, rfl, w1⟩ := open_int Try.underlying3 (hval 1 3 v1 rfl rfl) h1
  clear hA0
  refine (walk a0 a1 W w0 w1).mono fun e W' ⟨he, bel⟩ => ?_
  subst he
  exact ⟨_, rfl, _, _, _, [], _, [], hW', trodAll_mk1 (shut_bool Try.underlying4 _), (trodAll_cons_mk (shut_int Try.underlying3 w0) (trodAll_cons_mk (shut_int Try.underlying3 w1) trodAll_mk0)), rfl, bel.frame _, fun h => by cases h⟩

theorem laid_met (os : Os) : laidMet Try.prog Rows.compsNilRow.laid ((settled os).forCall (fun _ _ => 0) ⟨#[], #[.int .i64 0, .int .i64 0], []⟩).memory :=
  laidMet_of_run' 100 (by kernel_rfl) (by kernel_rfl)
theorem reads (os : Os) {H : Type} (enc : TypeId × Value → H) : ∃ places, DataW.whole enc Try.prog ((settled os).forCall (fun _ _ => 0) ⟨#[], #[.int .i64 0, .int .i64 0], []⟩).memory Try.f8.params.toList Rows.compsNilSpec.vars false (#[.int .i64 0, .int .i64 0] : Array Value).toList 8 = some ([.lit (.int .i64 0), .lit (.int .i64 0)], [], places) :=
  ⟨[], by kernel_rfl⟩

set_option maxRecDepth 100000 in
theorem lifted (os : Os) (started : os.Started) (H : Type) (enc : TypeId × Value → H) (F : Stop.Interp) :
    ReturnsInHanded {} Try.checked os 8 .any ((OpenSpec.ofChange Rows.compsNilSpec).preRow enc Try.prog Try.f8 Rows.compsNilRow.domain false Rows.compsNilRow.laid) (((OpenSpec.ofChange Rows.compsNilSpec).at F).post enc Try.prog Try.f8 false true false false) := by
  obtain ⟨places, hx⟩ := reads os enc
  refine returnsInHanded_of_row (C := Try.checked) (s := (OpenSpec.ofChange Rows.compsNilSpec)) own started (by kernel_rfl) Try.func8
    (witness_row_at (enc := enc) (C := Try.checked) false (settled os) #[.int .i64 0, .int .i64 0] rfl (by kernel_rfl) (by kernel_rfl) (by kernel_rfl)
      (OpenSpec.preRow_of_cond 8 hx (by kernel_rfl) (fun k hk => by cases hk) (by kernel_rfl) (laid_met os))) ?_
  intro W base args ds gs before hval hW _ _ hsz _ _ _
  exact contract H enc W base args ds gs before hval hW hsz 

theorem said : Rows.CompsNilSaid :=
  OpenClaim.holds_of_cond 8 Try.f8 rfl rfl rfl rfl rfl rfl rfl ⟨rfl, rfl, rfl, rfl, rfl⟩ rfl rfl rfl rfl rfl (by kernel_rfl) Try.func8 (by kernel_rfl)
    (of_decide_eq_true (by kernel_rfl)) (by unfold Func.isWrapper; first | (rw [if_pos (by decide +kernel)]; kernel_rfl) | (rw [if_neg (by decide +kernel)]; exact ⟨rfl, rfl⟩))
    (fun os started H enc _ F => by rw [OpenClaim.pre_eq_preRow]; exact lifted os started H enc F)

end lawNil

theorem compsNil_holds : Rows.CompsNilSaid := lawNil.said

#print axioms compsNil_holds
end Go.Proofs.Ytoaaihbeehpgfaa
