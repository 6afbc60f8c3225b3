/-
  Proved: for every graph the law BlocksOf answers true, and the graph reads afterwards as before. No condition.
-/
import Derived.Test.YtalfpbalekbinaaMg41
import Derived.Test.YtalfpbalekbinaaMg42
namespace Go.Proofs.Ytalfpbalekbinaa
open Go.ChangeShapes Go.WideShapes Go.ChangeAt Go.RowKit
namespace lawOf

set_option maxRecDepth 100000 in
set_option maxHeartbeats 16000000 in
theorem walk (n : Int) (ao : Option Addr) (ca : Nat) (es : List (Int × Int)) (w : World) (_ : -9223372036854775808 ≤ n ∧ n ≤ 9223372036854775807) (hq : PairsIn w ao es.length ca es) (hle : es.length * 16 ≤ 140737488351232) :
    Calls Try.prog 3 #[.agg #[.int .i64 n, .slice ao es.length ca]] w fun e w' => e = .returned (.bool true) ∧ Below w.heap.size w w' := by
  have hG0 : Gr9 w n ao ca es _ := .start hq.hat
  have HG0 := Nu.hid hG0
  have HO : Hid (∀ a c W, EdgesAt W a es → Calls Try.prog 9 #[.agg #[.int .i64 n, .slice a es.length c]] W (OfS (Bl.of9 n es) W)) := fun a c W h => pof_is n a c es W h (by omega)
  have HD : Hid (∀ a c W, EdgesAt W a es → Calls Try.prog 11 #[.agg #[.int .i64 n, .slice a es.length c]] W (OfS (Bl.of9 n es) W)) := fun a c W h => dof_is n a c es W h (by omega)
  have HOC : Hid (∀ a c W, EdgesAt W a es → Calls Try.prog 13 #[.agg #[.int .i64 n, .slice a es.length c]] W (LiS (Bl.cu9 n es) W)) := fun a c W h => pcuts_is n a c es W h (by omega)
  have HDC : Hid (∀ a c W, EdgesAt W a es → Calls Try.prog 14 #[.agg #[.int .i64 n, .slice a es.length c]] W (LiS (Bl.cu9 n es) W)) := fun a c W h => dcuts_is n a c es W h (by omega)
  have HOB : Hid (∀ a c W, EdgesAt W a es → Calls Try.prog 15 #[.agg #[.int .i64 n, .slice a es.length c]] W (LiS (Bl.bs9 n es) W)) := fun a c W h => pbridges_is n a c es W h (by omega)
  have HDB : Hid (∀ a c W, EdgesAt W a es → Calls Try.prog 16 #[.agg #[.int .i64 n, .slice a es.length c]] W (LiS (Bl.bs9 n es) W)) := fun a c W h => dbridges_is n a c es W h (by omega)
  have l1 := Bl.of9_length n es
  have l2 := Bl.cu9_length n es
  have l3 := Bl.bs9_length n es
  obtain ⟨⟨L1, r1, z1⟩, hr1⟩ : ∃ r, Bl.of9 n es = r := ⟨_, rfl⟩
  obtain ⟨⟨L2, z2⟩, hr2⟩ : ∃ r, Bl.cu9 n es = r := ⟨_, rfl⟩
  obtain ⟨⟨L3, z3⟩, hr3⟩ : ∃ r, Bl.bs9 n es = r := ⟨_, rfl⟩
  rw [hr1] at HO HD l1
  rw [hr2] at HOC HDC l2
  rw [hr3] at HOB HDB l3
  dsimp only at l1 l2 l3
  have hle' : es.length * 16 ≤ 140737488355328 := by omega
  clear hq hG0 hr1 hr2 hr3
  go_enter Try.func3, Try.ntmps3
  go_wp2_with (go_at_call 8; refine (wakes_any _).mono ?_; rintro e w1 ⟨rfl, hb⟩; refine Hid.out ?_)
  refine Nu.hid ?_
  have G1 := Nu.hid (HG0.out.later hb)
  obtain ⟨x0, x1⟩ := G1.out.cells
  clear hb HG0
  go_wp2_with (first
    | (go_at_call 10; refine (G1.out.copy hle').mono ?_; rintro e w2 ⟨a2, c2, rfl, he2, hb2⟩; have HE := Nu.hid he2; have G2 := Nu.hid (G1.out.later hb2); clear he2 hb2)
    | (go_at_call 9; refine (HO.out _ _ _ HE.out).mono ?_; rintro e w3 ⟨a3, c3, rfl, ho, hb3⟩; have HL := Nu.hid ho.at; have G3 := Nu.hid (G2.out.later hb3); clear ho hb3; refine Hid.out ?_))
  refine Nu.hid ?_
  clear x0 x1 HE G1 G2
  obtain ⟨x0, x1⟩ := G3.out.cells
  go_wp2_with (go_at_call 11; refine (HD.out _ _ _ G3.out.edges).mono ?_; rintro e w4 ⟨a4, c4, rfl, ho, hb4⟩; have HS := Nu.hid (same_two (ca := c3) (cb := c4) rfl (HL.out.later hb4) ho.at (by omega)); have G4 := Nu.hid (G3.out.later hb4); clear ho hb4; refine Hid.out ?_)
  refine Nu.hid ?_
  clear x0 x1 HL G3
  go_wp2_with (go_at_call 12; refine HS.out.mono ?_; rintro e w5 ⟨rfl, hb5⟩; have G5 := Nu.hid (G4.out.later hb5); clear hb5; refine Hid.out ?_)
  refine Nu.hid ?_
  clear HS G4
  obtain ⟨x0, x1⟩ := G5.out.cells
  go_wp2_with (first
    | (go_at_call 10; refine (G5.out.copy hle').mono ?_; rintro e w6 ⟨a6, c6, rfl, he6, hb6⟩; have HE := Nu.hid he6; have G6 := Nu.hid (G5.out.later hb6); clear he6 hb6)
    | (go_at_call 13; refine (HOC.out _ _ _ HE.out).mono ?_; rintro e w7 ⟨a7, c7, rfl, ho, hb7⟩; have HL := Nu.hid ho.at; have G7 := Nu.hid (G6.out.later hb7); clear ho hb7; refine Hid.out ?_))
  refine Nu.hid ?_
  clear x0 x1 HE G5 G6
  obtain ⟨x0, x1⟩ := G7.out.cells
  go_wp2_with (go_at_call 14; refine (HDC.out _ _ _ G7.out.edges).mono ?_; rintro e w8 ⟨a8, c8, rfl, ho, hb8⟩; have HS := Nu.hid (same_two (ca := c7) (cb := c8) rfl (HL.out.later hb8) ho.at (by omega)); have G8 := Nu.hid (G7.out.later hb8); clear ho hb8; refine Hid.out ?_)
  refine Nu.hid ?_
  clear x0 x1 HL G7
  go_wp2_with (go_at_call 12; refine HS.out.mono ?_; rintro e w9 ⟨rfl, hb9⟩; have G9 := Nu.hid (G8.out.later hb9); clear hb9; refine Hid.out ?_)
  refine Nu.hid ?_
  clear HS G8
  obtain ⟨x0, x1⟩ := G9.out.cells
  go_wp2_with (first
    | (go_at_call 10; refine (G9.out.copy hle').mono ?_; rintro e w10 ⟨a10, c10, rfl, he10, hb10⟩; have HE := Nu.hid he10; have G10 := Nu.hid (G9.out.later hb10); clear he10 hb10)
    | (go_at_call 15; refine (HOB.out _ _ _ HE.out).mono ?_; rintro e w11 ⟨a11, c11, rfl, ho, hb11⟩; have HL := Nu.hid ho.at; have G11 := Nu.hid (G10.out.later hb11); clear ho hb11; refine Hid.out ?_))
  refine Nu.hid ?_
  clear x0 x1 HE G9 G10
  obtain ⟨x0, x1⟩ := G11.out.cells
  go_wp2_with (go_at_call 16; refine (HDB.out _ _ _ G11.out.edges).mono ?_; rintro e w12 ⟨a12, c12, rfl, ho, hb12⟩; have HS := Nu.hid (same_two (ca := c11) (cb := c12) rfl (HL.out.later hb12) ho.at (by omega)); have G12 := Nu.hid (G11.out.later hb12); clear ho hb12; refine Hid.out ?_)
  refine Nu.hid ?_
  clear x0 x1 HL G11
  go_wp2_with (go_at_call 12; refine HS.out.mono ?_; rintro e w13 ⟨rfl, hb13⟩; have HB := Nu.hid (G12.out.later hb13).low; clear hb13)
  go_ret
  exact ⟨rfl, HB.out⟩

set_option maxRecDepth 100000 in
/-- What the walk gives, for every argument and every world. -/
theorem contract (H : Type) (enc : TypeId × Value → H) (W : World) (base : Nat) (args : Array Value) (ds gs : List (DataW H)) (before : List MemPlace)
    (hval : ∀ (j : Nat) t v, Try.f3.params[j]? = some t → args[j]? = some v → Value.okWide Try.prog W .any base t v)
    (hW : DataW.Whole enc Try.prog Try.f3.params.toList Rows.blocksOfSpec.vars false W args.toList ds gs before)
    (hsz : (DataW.weightsEach Try.prog (Try.f3.params.toList ++ (OpenSpec.ofChange Rows.blocksOfSpec).bare.plain.varTypes Try.prog) (ds ++ gs)).all (· ≤ reachBytes) = true)
    :
    Calls Try.prog 3 args W fun e W' => ∃ v, e = .returned v ∧ Rows.blocksOfSpec.post enc Try.prog Try.f3 false true false false W args v W' := by
  have hW' := hW
  obtain ⟨p, q, hA0, hV, rfl, hfz, hnd⟩ := hW
  have hA : DataW.TrodAll enc Try.prog W 0 (fun _ => true) true Try.f3.params.toList args.toList ds p := hA0
  rw [Try.params3] at hA hval hsz
  obtain ⟨v0, vs0, d0, ds0, p0, q0, hargs, rfl, rfl, h0, r0⟩ := trodAll_cons hA
  obtain ⟨rfl, rfl, rfl⟩ := trodAll_nil r0
  obtain rfl : args = #[v0] := by cases args; simp_all
  obtain ⟨rfl, rfl⟩ := trodVars_none hV
  have k0 := h0
  have lt0 : ∀ x ∈ p0, x.block < W.heap.size := by obtain ⟨m, hm⟩ := k0; exact DataW.trod_lt m _ _ _ hm
  obtain ⟨n0, a0, cap0, q0, rfl, x0, w0, u0⟩ := graph_of_trod (j := 0) (hval 0 24 v0 rfl rfl) h0 hsz rfl rfl
  clear hA0
  refine (walk n0 a0 cap0 q0 W x0 w0 u0).mono fun e W' ⟨he, bel⟩ => ?_
  subst he
  exact ⟨_, rfl, _, _, _, [], _, [], hW', trodAll_mk1 (shut_bool Try.underlying4 _), (trodAll_cons_mk (Below.trod laidOut (by kernel_rfl) (of_decide_eq_true (by kernel_rfl)) k0 bel lt0) trodAll_mk0), rfl, bel.frame _, fun h => by cases h⟩

theorem laid_met (os : Os) : laidMet Try.prog Rows.blocksOfRow.laid ((settled os).forCall (fun _ _ => 0) ⟨#[], #[.agg #[.int .i64 0, .slice none 0 0]], []⟩).memory :=
  laidMet_of_run' 100 (by kernel_rfl) (by kernel_rfl)
theorem reads (os : Os) {H : Type} (enc : TypeId × Value → H) : ∃ places, DataW.whole enc Try.prog ((settled os).forCall (fun _ _ => 0) ⟨#[], #[.agg #[.int .i64 0, .slice none 0 0]], []⟩).memory Try.f3.params.toList Rows.blocksOfSpec.vars false (#[.agg #[.int .i64 0, .slice none 0 0]] : Array Value).toList 8 = some ([.agg [.lit (.int .i64 0), .nil]], [], places) :=
  ⟨[], by kernel_rfl⟩

set_option maxRecDepth 100000 in
theorem lifted (os : Os) (started : os.Started) (H : Type) (enc : TypeId × Value → H) (F : Stop.Interp) :
    ReturnsInHanded {} Try.checked os 3 .any ((OpenSpec.ofChange Rows.blocksOfSpec).preRow enc Try.prog Try.f3 Rows.blocksOfRow.domain false Rows.blocksOfRow.laid) (((OpenSpec.ofChange Rows.blocksOfSpec).at F).post enc Try.prog Try.f3 false true false false) := by
  obtain ⟨places, hx⟩ := reads os enc
  refine returnsInHanded_of_row (C := Try.checked) (s := (OpenSpec.ofChange Rows.blocksOfSpec)) own started (by kernel_rfl) Try.func3
    (witness_row_at (enc := enc) (C := Try.checked) false (settled os) #[.agg #[.int .i64 0, .slice none 0 0]] rfl (by kernel_rfl) (by kernel_rfl) (by kernel_rfl)
      (OpenSpec.preRow_of_cond 8 hx (by kernel_rfl) (fun k hk => by cases hk) (by kernel_rfl) (laid_met os))) ?_
  intro W base args ds gs before hval hW _ _ hsz _ _ _
  exact contract H enc W base args ds gs before hval hW hsz 

theorem said : Rows.BlocksOfSaid :=
  OpenClaim.holds_of_cond 3 Try.f3 rfl rfl rfl rfl rfl rfl rfl ⟨rfl, rfl, rfl, rfl, rfl⟩ rfl rfl rfl rfl rfl (by kernel_rfl) Try.func3 (by kernel_rfl)
    (of_decide_eq_true (by kernel_rfl)) (by unfold Func.isWrapper; first | (rw [if_pos (by decide +kernel)]; kernel_rfl) | (rw [if_neg (by decide +kernel)]; exact ⟨rfl, rfl⟩))
    (fun os started H enc _ F => by rw [OpenClaim.pre_eq_preRow]; exact lifted os started H enc F)

end lawOf

theorem blocksOf_holds : Rows.BlocksOfSaid := lawOf.said

#print axioms blocksOf_holds
end Go.Proofs.Ytalfpbalekbinaa
