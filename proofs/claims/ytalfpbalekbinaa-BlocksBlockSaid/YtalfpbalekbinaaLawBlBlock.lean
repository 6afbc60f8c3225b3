/-
  Proved: for every graph and number the law BlocksBlock answers true, and the graph reads afterwards as before. No condition.
-/
import Derived.Test.YtalfpbalekbinaaMg41
import Derived.Test.YtalfpbalekbinaaMg42
namespace Go.Proofs.Ytalfpbalekbinaa
open Go.ChangeShapes Go.WideShapes Go.ChangeAt Go.RowKit
namespace lawBlock

set_option maxRecDepth 100000 in
set_option maxHeartbeats 16000000 in
theorem walk (n : Int) (ao : Option Addr) (ca : Nat) (es : List (Int × Int)) (k : Int) (w : World) (_ : -9223372036854775808 ≤ n ∧ n ≤ 9223372036854775807) (hq : PairsIn w ao es.length ca es) (hle : es.length * 16 ≤ 140737488351232) (_ : (Lit.int .i64 k).wf = true) :
    Calls Try.prog 4 #[.agg #[.int .i64 n, .slice ao es.length ca], .int .i64 k] w fun e w' => e = .returned (.bool true) ∧ Below w.heap.size w w' := by
  have hG0 : Gr9 w n ao ca es _ := .start hq.hat
  have HG0 := Nu.hid hG0
  have HO : Hid (∀ a c W, EdgesAt W a es → Calls Try.prog 17 #[.agg #[.int .i64 n, .slice a es.length c], .int .i64 k] W (BkS (Bl.bl9 n es k) W)) := fun a c W h => pblock_is n a c es W h (by omega) k
  have HD : Hid (∀ a c W, EdgesAt W a es → Calls Try.prog 18 #[.agg #[.int .i64 n, .slice a es.length c], .int .i64 k] W (DkS (Bl.bl9 n es k) W)) := fun a c W h => dblock_is n a c es W h (by omega) k
  obtain ⟨l1, l2⟩ := Bl.bl9_length n k es
  obtain ⟨⟨E, L, z⟩, hr⟩ : ∃ r, Bl.bl9 n es k = r := ⟨_, rfl⟩
  rw [hr] at HO HD l1 l2
  dsimp only at l1 l2
  have hle' : es.length * 16 ≤ 140737488355328 := by omega
  clear hq hG0 hr
  go_enter Try.func4, Try.ntmps4
  go_wp2_with (go_at_call 8; refine (wakes_any _).mono ?_; rintro e w1 ⟨rfl, hb⟩; refine Hid.out ?_)
  refine Nu.hid ?_
  have G1 := Nu.hid (HG0.out.later hb)
  obtain ⟨x0, x1⟩ := G1.out.cells
  clear hb HG0
  go_wp2_with (first
    | (go_at_call 10; refine (G1.out.copy hle').mono ?_; rintro e w2 ⟨a2, c2, rfl, he2, hb2⟩; have HE := Nu.hid he2; have G2 := Nu.hid (G1.out.later hb2); clear he2 hb2)
    | (go_at_call 17; refine (HO.out _ _ _ HE.out).mono ?_; rintro e w3 ⟨ea, ec, a3, c3, rfl, hoe, ho, -, hb3⟩; have HL := Nu.hid ho.at; have HOE := Nu.hid hoe; have G3 := Nu.hid (G2.out.later hb3); clear ho hoe hb3; refine Hid.out ?_))
  refine Nu.hid ?_
  clear x0 x1 HE G1 G2
  try dsimp only at HL
  try dsimp only at HOE
  try dsimp only
  obtain ⟨w4, hw4⟩ : ∃ w4, w4 = w3.alloc (.cells #[.int .i64 (L.length : Int), .slice ea E.length ec] 24) := ⟨_, rfl⟩
  have hb4 : Below w3.heap.size w3 w4 := by rw [hw4]; exact (Below.refl _ _).alloc (Nat.le_refl _) _
  have hbx : w4.heap[w3.heap.size]? = some (.cells #[.int .i64 (L.length : Int), .slice ea E.length ec] 24 (0, 0)) := by rw [hw4]; exact heap_alloc_new w3 _
  have G4 := Nu.hid (G3.out.later hb4)
  have HL4 := Nu.hid (HL.out.later hb4)
  have HE4 : Hid (EdgesAt w4 ea E) := by
    obtain ⟨a, c, e1, _, _, h1, _⟩ := HOE.out.form
    cases e1
    exact h1.later hb4
  have HBX := Nu.hid hbx
  obtain ⟨y0, y1, yf⟩ := pair_cells hbx
  obtain ⟨x0, x1⟩ := G4.out.cells
  rw [hw4] at x0 x1 y0 y1
  have HW4 := Nu.hid hw4
  clear hb4 hbx hw4 HL HOE G3
  go_wp2_with (go_at_call 18; rw [← HW4.out]; refine (HD.out _ _ _ G4.out.edges).mono ?_; rintro e w5 ⟨da, dc, a5, c5, rfl, hoe, ho, hb5⟩; refine Hid.out ?_)
  refine Nu.hid ?_
  try dsimp only at ho
  try dsimp only at hoe
  try dsimp only
  have G5 := Nu.hid (G4.out.later hb5)
  have HB5 : Hid (Below w4.heap.size w4 w5) := hb5
  have HBX5 : Hid (w5.heap[w3.heap.size]? = some (.cells #[.int .i64 (L.length : Int), .slice ea E.length ec] 24 (0, 0))) := (hb5.block _ (lt_of_block HBX.out)).trans HBX.out
  have HD5 : Hid (EdgesAt w5 da E) := by
    obtain ⟨a, c, e1, _, _, h1, _⟩ := hoe.form
    cases e1
    exact h1
  have HE5 := Nu.hid (HE4.out.later hb5)
  have HL5 := Nu.hid (HL4.out.later hb5)
  have HN5 := Nu.hid ho.at
  clear hb5 ho hoe x0 x1 y0 y1 yf HL4 HE4 HBX HB5 G4
  obtain ⟨w6, hw6⟩ : ∃ w6, w6 = w5.alloc (.cells #[.int .i64 (L.length : Int), .slice da E.length dc] 24) := ⟨_, rfl⟩
  have hb6 : Below w5.heap.size w5 w6 := by rw [hw6]; exact (Below.refl _ _).alloc (Nat.le_refl _) _
  have G6 := Nu.hid (G5.out.later hb6)
  have hby : w6.heap[w3.heap.size]? = some (.cells #[.int .i64 (L.length : Int), .slice ea E.length ec] 24 (0, 0)) := (hb6.block _ (lt_of_block HBX5.out)).trans HBX5.out
  obtain ⟨y0, y1, -⟩ := pair_cells hby
  have HQ := Nu.hid (equal_two (n := (L.length : Int)) (ca := ec) (cb := dc) (HE5.out.later hb6) (HD5.out.later hb6) (by omega))
  have HL6 := Nu.hid (HL5.out.later hb6)
  have HN6 := Nu.hid (HN5.out.later hb6)
  rw [hw6] at y0 y1
  have HW6 := Nu.hid hw6
  clear hb6 hby hw6 HE5 HD5 HL5 HN5 G5 HBX5
  go_wp2_with (go_at_call 19; rw [← HW6.out]; refine HQ.out.mono ?_; rintro e w7 ⟨rfl, hb7⟩; have HS := Nu.hid (same_two (ca := c3) (cb := c5) rfl (HL6.out.later hb7) (HN6.out.later hb7) (by omega)); have G7 := Nu.hid (G6.out.later hb7); clear hb7; refine Hid.out ?_)
  refine Nu.hid ?_
  clear y0 y1
  go_wp2_with (go_at_call 12; refine HS.out.mono ?_; rintro e w8 ⟨rfl, hb8⟩; have HB := Nu.hid (G7.out.later hb8).low; clear hb8)
  go_ret
  exact ⟨rfl, HB.out⟩

set_option maxRecDepth 100000 in
/-- What the walk gives, for every argument and every world. -/
theorem contract (H : Type) (enc : TypeId × Value → H) (W : World) (base : Nat) (args : Array Value) (ds gs : List (DataW H)) (before : List MemPlace)
    (hval : ∀ (j : Nat) t v, Try.f4.params[j]? = some t → args[j]? = some v → Value.okWide Try.prog W .any base t v)
    (hW : DataW.Whole enc Try.prog Try.f4.params.toList Rows.blocksBlockSpec.vars false W args.toList ds gs before)
    (hsz : (DataW.weightsEach Try.prog (Try.f4.params.toList ++ (OpenSpec.ofChange Rows.blocksBlockSpec).bare.plain.varTypes Try.prog) (ds ++ gs)).all (· ≤ reachBytes) = true)
    :
    Calls Try.prog 4 args W fun e W' => ∃ v, e = .returned v ∧ Rows.blocksBlockSpec.post enc Try.prog Try.f4 false true false false W args v W' := by
  have hW' := hW
  obtain ⟨p, q, hA0, hV, rfl, hfz, hnd⟩ := hW
  have hA : DataW.TrodAll enc Try.prog W 0 (fun _ => true) true Try.f4.params.toList args.toList ds p := hA0
  rw [Try.params4] at hA hval hsz
  obtain ⟨v0, vs0, d0, ds0, p0, q0, hargs, rfl, rfl, h0, r0⟩ := trodAll_cons hA
  obtain ⟨v1, vs1, d1, ds1, p1, q1, rfl, rfl, rfl, h1, r1⟩ := trodAll_cons r0
  obtain ⟨rfl, rfl, rfl⟩ := trodAll_nil r1
  obtain rfl : args = #[v0, v1] := by cases args; simp_all
  obtain ⟨rfl, rfl⟩ := trodVars_none hV
  have k0 := h0
  have lt0 : ∀ x ∈ p0, x.block < W.heap.size := by obtain ⟨m, hm⟩ := k0; exact DataW.trod_lt m _ _ _ hm
  obtain ⟨n0, a0, cap0, q0, rfl, x0, w0, u0⟩ := graph_of_trod (j := 0) (hval 0 24 v0 rfl rfl) h0 hsz rfl rfl
  obtain ⟨a1, rfl, rfl, rfl, w1⟩ := open_int Try.underlying3 (hval 1 3 v1 rfl rfl) h1
  clear hA0
  refine (walk n0 a0 cap0 q0 a1 W x0 w0 u0 w1).mono fun e W' ⟨he, bel⟩ => ?_
  subst he
  exact ⟨_, rfl, _, _, _, [], _, [], hW', trodAll_mk1 (shut_bool Try.underlying4 _), (trodAll_cons_mk (Below.trod laidOut (by kernel_rfl) (of_decide_eq_true (by kernel_rfl)) k0 bel lt0) (trodAll_cons_mk (shut_int Try.underlying3 w1) trodAll_mk0)), rfl, bel.frame _, fun h => by cases h⟩

theorem laid_met (os : Os) : laidMet Try.prog Rows.blocksBlockRow.laid ((settled os).forCall (fun _ _ => 0) ⟨#[], #[.agg #[.int .i64 0, .slice none 0 0], .int .i64 0], []⟩).memory :=
  laidMet_of_run' 100 (by kernel_rfl) (by kernel_rfl)
theorem reads (os : Os) {H : Type} (enc : TypeId × Value → H) : ∃ places, DataW.whole enc Try.prog ((settled os).forCall (fun _ _ => 0) ⟨#[], #[.agg #[.int .i64 0, .slice none 0 0], .int .i64 0], []⟩).memory Try.f4.params.toList Rows.blocksBlockSpec.vars false (#[.agg #[.int .i64 0, .slice none 0 0], .int .i64 0] : Array Value).toList 8 = some ([.agg [.lit (.int .i64 0), .nil], .lit (.int .i64 0)], [], places) :=
  ⟨[], by kernel_rfl⟩

set_option maxRecDepth 100000 in
theorem lifted (os : Os) (started : os.Started) (H : Type) (enc : TypeId × Value → H) (F : Stop.Interp) :
    ReturnsInHanded {} Try.checked os 4 .any ((OpenSpec.ofChange Rows.blocksBlockSpec).preRow enc Try.prog Try.f4 Rows.blocksBlockRow.domain false Rows.blocksBlockRow.laid) (((OpenSpec.ofChange Rows.blocksBlockSpec).at F).post enc Try.prog Try.f4 false true false false) := by
  obtain ⟨places, hx⟩ := reads os enc
  refine returnsInHanded_of_row (C := Try.checked) (s := (OpenSpec.ofChange Rows.blocksBlockSpec)) own started (by kernel_rfl) Try.func4
    (witness_row_at (enc := enc) (C := Try.checked) false (settled os) #[.agg #[.int .i64 0, .slice none 0 0], .int .i64 0] rfl (by kernel_rfl) (by kernel_rfl) (by kernel_rfl)
      (OpenSpec.preRow_of_cond 8 hx (by kernel_rfl) (fun k hk => by cases hk) (by kernel_rfl) (laid_met os))) ?_
  intro W base args ds gs before hval hW _ _ hsz _ _ _
  exact contract H enc W base args ds gs before hval hW hsz 

theorem said : Rows.BlocksBlockSaid :=
  OpenClaim.holds_of_cond 4 Try.f4 rfl rfl rfl rfl rfl rfl rfl ⟨rfl, rfl, rfl, rfl, rfl⟩ rfl rfl rfl rfl rfl (by kernel_rfl) Try.func4 (by kernel_rfl)
    (of_decide_eq_true (by kernel_rfl)) (by unfold Func.isWrapper; first | (rw [if_pos (by decide +kernel)]; kernel_rfl) | (rw [if_neg (by decide +kernel)]; exact ⟨rfl, rfl⟩))
    (fun os started H enc _ F => by rw [OpenClaim.pre_eq_preRow]; exact lifted os started H enc F)

end lawBlock

theorem blocksBlock_holds : Rows.BlocksBlockSaid := lawBlock.said

#print axioms blocksBlock_holds
end Go.Proofs.Ytalfpbalekbinaa
