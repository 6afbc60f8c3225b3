/-
  Proved: for every graph the law KuraRecognises answers true, and the graph reads afterwards as before. No condition.
-/
import Derived.Test.YtdhaaodalchpkaaKwH
import Derived.Test.YtdhaaodalchpkaaSiGin
namespace Go.Proofs.Ytdhaaodalchpkaa
open Go.ChangeShapes Go.WideShapes Go.ChangeAt Go.RowKit
namespace lawKuR

set_option maxRecDepth 100000 in
set_option maxHeartbeats 16000000 in
theorem walk (n : Int) (ao : Option Addr) (ca : Nat) (es : List (Int × Int)) (w : World) (_ : -9223372036854775808 ≤ n ∧ n ≤ 9223372036854775807) (hq : PairsIn w ao es.length ca es) (hle : es.length * 16 ≤ 140737488351232) :
    Calls Try.prog 4 #[.agg #[.int .i64 n, .slice ao es.length ca]] w fun e w' => e = .returned (.bool true) ∧ Below w.heap.size w w' := by
  have HG0 : Hid (Gr15 w n ao ca es _) := Nu.hid (.start hq.hat)
  have HP : Hid (∀ a c W, EdgesAt W a es → Calls Try.prog 13 #[.agg #[.int .i64 n, .slice a es.length c]] W (Ku.KrP (Ku.kr n es) W)) := fun a c W h => precognise_is n a c es W h (by omega)
  have HD : Hid (∀ a c W, EdgesAt W a es → Calls Try.prog 14 #[.agg #[.int .i64 n, .slice a es.length c]] W (Ku.KrP (Ku.kr n es) W)) := fun a c W h => drecognise_is n a c es W h (by omega)
  have l1 := Ku.kr_small n es
  obtain ⟨⟨kd, br, ps, is, z⟩, hr⟩ : ∃ r, Ku.kr n es = r := ⟨_, rfl⟩
  rw [hr] at HP HD l1
  obtain ⟨l2, l3, l4⟩ := l1
  dsimp only at l2 l3 l4
  have HL4 : Hid (∀ l ∈ ps, l.length ≤ 4611686018427387904) := fun l hl => by have := l4 l hl; omega
  obtain ⟨q, hbq⟩ : ∃ q, br.length = q := ⟨_, rfl⟩
  obtain ⟨p, hpq⟩ : ∃ p, ps.length = p := ⟨_, rfl⟩
  unfold Ku.KrP at HP HD
  dsimp only at HP HD
  rw [hbq, hpq] at HP HD
  rw [hbq] at l2
  rw [hpq] at l3
  have HBQ := Nu.hid hbq
  have HPQ := Nu.hid hpq
  have hle' : es.length * 16 ≤ 140737488355328 := by omega
  clear hq hr l4 hbq hpq
  go_enter Try.func4, Try.ntmps4
  go_wp2_with (go_at_call 8; refine (wakes15_any _).mono ?_; rintro e w1 ⟨rfl, hb⟩; refine Hid.out ?_)
  refine Nu.hid ?_
  have G1 := Nu.hid (HG0.out.later hb)
  obtain ⟨x0, x1⟩ := G1.out.cells
  clear hb HG0
  go_wp2_with (first
    | (go_at_call 10; refine (G1.out.copy hle').mono ?_; rintro e w2 ⟨a2, c2, rfl, he2, hb2⟩; have HE := Nu.hid he2; have G2 := Nu.hid (G1.out.later hb2); clear he2 hb2)
    | (go_at_call 13; refine (HP.out _ _ _ HE.out).mono ?_; rintro e w3 ⟨a3, c3, a4, c4, rfl, hi3, hs3, hb3⟩; have HI3 := Nu.hid hi3; have HS3 := Nu.hid hs3; have G3 := Nu.hid (G2.out.later hb3); clear hi3 hs3 hb3; refine Hid.out ?_))
  refine Nu.hid ?_
  clear x0 x1 HE G1 G2
  obtain ⟨V, hV⟩ : ∃ V, V = w3.alloc (.cells #[.int .i64 kd, .slice a3 q c3, .slice a4 p c4] 38) := ⟨_, rfl⟩
  have hbV : Below w3.heap.size w3 V := by rw [hV]; exact (Below.refl _ _).alloc (Nat.le_refl _) _
  have gV : V.heap[w3.heap.size]? = some (.cells #[.int .i64 kd, .slice a3 q c3, .slice a4 p c4] 38 (0, 0)) := by rw [hV]; exact heap_alloc_new w3 _
  have GV := Nu.hid (G3.out.later hbV)
  have HI4 := Nu.hid (HI3.out.later hbV)
  have HS4 := Nu.hid (HS3.out.later hbV)
  have HGV := Nu.hid gV
  obtain ⟨x0, x1⟩ := GV.out.cells
  have HV := Nu.hid hV
  have HDV := Nu.hid (HD.out _ ca V GV.out.edges)
  rw [hV] at x0 x1
  clear hbV gV hV HI3 HS3 G3
  go_wp2_with (go_at_call 14; rw [← HV.out]; refine HDV.out.mono ?_; refine Hid.out ?_)
  refine Nu.hid ?_
  rintro e w5 ⟨a5, c5, a6, c6, rfl, hi5, hs5, hb5⟩
  obtain ⟨U, hU⟩ : ∃ U, U = w5.alloc (.cells #[.int .i64 kd, .slice a5 q c5, .slice a6 p c6] 38) := ⟨_, rfl⟩
  have hbU : Below w5.heap.size w5 U := by rw [hU]; exact (Below.refl _ _).alloc (Nat.le_refl _) _
  have gU : U.heap[w5.heap.size]? = some (.cells #[.int .i64 kd, .slice a5 q c5, .slice a6 p c6] 38 (0, 0)) := by rw [hU]; exact heap_alloc_new w5 _
  have hbVU : Below V.heap.size V U := hb5.trans (hbU.mono hb5.size)
  have hne : w3.heap.size < w5.heap.size := Nat.lt_of_lt_of_le (lt_of_block HGV.out) hb5.size
  obtain ⟨k0, k1, k2, -⟩ := cells3_15 ((hbVU.block _ (lt_of_block HGV.out)).trans HGV.out)
  obtain ⟨j0, j1, j2, -⟩ := cells3_15 gU
  have HSM := Nu.hid (ksame_any kd a3 a5 a4 a6 c3 c5 c4 c6 q p br ps U HBQ.out HPQ.out (HI4.out.later hbVU) (hi5.later hbU) (by have := HS4.out.later hbVU; exact this) (by have := hs5.later hbU; exact this) (by omega) (by omega) HL4.out)
  have GU := Nu.hid (GV.out.later hbVU)
  have HU := Nu.hid hU
  rw [hU] at k0 k1 k2 j0 j1 j2
  clear hi5 hs5 hb5 hbU gU hbVU hU x0 x1
  go_wp2_with (go_at_call 15; rw [← HU.out]; refine HSM.out.mono ?_; rintro e w6 ⟨rfl, hb6⟩; have HB := Nu.hid (GU.out.later hb6).low; clear hb6)
  go_ret
  exact ⟨rfl, HB.out⟩

set_option maxRecDepth 100000 in
/-- What the walk gives, for every argument and every world. -/
theorem contract (H : Type) (enc : TypeId × Value → H) (W : World) (base : Nat) (args : Array Value) (ds gs : List (DataW H)) (before : List MemPlace)
    (hval : ∀ (j : Nat) t v, Try.f4.params[j]? = some t → args[j]? = some v → Value.okWide Try.prog W .any base t v)
    (hW : DataW.Whole enc Try.prog Try.f4.params.toList Rows.kuraRecognisesSpec.vars false W args.toList ds gs before)
    (hsz : (DataW.weightsEach Try.prog (Try.f4.params.toList ++ (OpenSpec.ofChange Rows.kuraRecognisesSpec).bare.plain.varTypes Try.prog) (ds ++ gs)).all (· ≤ reachBytes) = true)
    :
    Calls Try.prog 4 args W fun e W' => ∃ v, e = .returned v ∧ Rows.kuraRecognisesSpec.post enc Try.prog Try.f4 false true false false W args v W' := by
  have hW' := hW
  obtain ⟨p, q, hA0, hV, rfl, hfz, hnd⟩ := hW
  have hA : DataW.TrodAll enc Try.prog W 0 (fun _ => true) true Try.f4.params.toList args.toList ds p := hA0
  rw [Try.params4] at hA hval hsz
  obtain ⟨v0, vs0, d0, ds0, p0, q0, hargs, rfl, rfl, h0, r0⟩ := trodAll_cons hA
  obtain ⟨rfl, rfl, rfl⟩ := trodAll_nil r0
  obtain rfl : args = #[v0] := by cases args; simp_all
  obtain ⟨rfl, rfl⟩ := trodVars_none hV
  have k0 := h0
  have lt0 : ∀ x ∈ p0, x.block < W.heap.size := by obtain ⟨m, hm⟩ := k0; exact DataW.trod_lt m _ _ _ hm
  obtain ⟨n0, a0, cap0, q0, rfl, x0, w0, u0⟩ := graph_of_trod (j := 0) (hval 0 24 v0 rfl rfl) h0 hsz rfl rfl
  clear hA0
  refine (walk n0 a0 cap0 q0 W x0 w0 u0).mono fun e W' ⟨he, bel⟩ => ?_
  subst he
  exact ⟨_, rfl, _, _, _, [], _, [], hW', trodAll_mk1 (shut_bool Try.underlying4 _), (trodAll_cons_mk (Below.trod laidOut (by kernel_rfl) (of_decide_eq_true (by kernel_rfl)) k0 bel lt0) trodAll_mk0), rfl, bel.frame _, fun h => by cases h⟩

theorem laid_met (os : Os) : laidMet Try.prog Rows.kuraRecognisesRow.laid ((settled os).forCall (fun _ _ => 0) ⟨#[], #[.agg #[.int .i64 0, .slice none 0 0]], []⟩).memory :=
  laidMet_of_run' 100 (by kernel_rfl) (by kernel_rfl)
theorem reads (os : Os) {H : Type} (enc : TypeId × Value → H) : ∃ places, DataW.whole enc Try.prog ((settled os).forCall (fun _ _ => 0) ⟨#[], #[.agg #[.int .i64 0, .slice none 0 0]], []⟩).memory Try.f4.params.toList Rows.kuraRecognisesSpec.vars false (#[.agg #[.int .i64 0, .slice none 0 0]] : Array Value).toList 8 = some ([.agg [.lit (.int .i64 0), .nil]], [], places) :=
  ⟨[], by kernel_rfl⟩

set_option maxRecDepth 100000 in
theorem lifted (os : Os) (started : os.Started) (H : Type) (enc : TypeId × Value → H) (F : Stop.Interp) :
    ReturnsInHanded {} Try.checked os 4 .any ((OpenSpec.ofChange Rows.kuraRecognisesSpec).preRow enc Try.prog Try.f4 Rows.kuraRecognisesRow.domain false Rows.kuraRecognisesRow.laid) (((OpenSpec.ofChange Rows.kuraRecognisesSpec).at F).post enc Try.prog Try.f4 false true false false) := by
  obtain ⟨places, hx⟩ := reads os enc
  refine returnsInHanded_of_row (C := Try.checked) (s := (OpenSpec.ofChange Rows.kuraRecognisesSpec)) own started (by kernel_rfl) Try.func4
    (witness_row_at (enc := enc) (C := Try.checked) false (settled os) #[.agg #[.int .i64 0, .slice none 0 0]] rfl (by kernel_rfl) (by kernel_rfl) (by kernel_rfl)
      (OpenSpec.preRow_of_cond 8 hx (by kernel_rfl) (fun k hk => by cases hk) (by kernel_rfl) (laid_met os))) ?_
  intro W base args ds gs before hval hW _ _ hsz _ _ _
  exact contract H enc W base args ds gs before hval hW hsz 

theorem said : Rows.KuraRecognisesSaid :=
  OpenClaim.holds_of_cond 4 Try.f4 rfl rfl rfl rfl rfl rfl rfl ⟨rfl, rfl, rfl, rfl, rfl⟩ rfl rfl rfl rfl rfl (by kernel_rfl) Try.func4 (by kernel_rfl)
    (of_decide_eq_true (by kernel_rfl)) (by unfold Func.isWrapper; first | (rw [if_pos (by decide +kernel)]; kernel_rfl) | (rw [if_neg (by decide +kernel)]; exact ⟨rfl, rfl⟩))
    (fun os started H enc _ F => by rw [OpenClaim.pre_eq_preRow]; exact lifted os started H enc F)

end lawKuR

theorem kuraRecognises_holds : Rows.KuraRecognisesSaid := lawKuR.said

#print axioms kuraRecognises_holds
end Go.Proofs.Ytdhaaodalchpkaa
