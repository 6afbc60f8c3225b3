/-
  DfsBack, of every forest and number: Back is the document's.
-/
import Derived.Test.YtponmjipbcmlhaaDfAwake
import Derived.Test.YtponmjipbcmlhaaDfCopy
import Derived.Test.YtponmjipbcmlhaaDfIn
import Derived.Deep.RegionHeld3
namespace Go.Proofs.Ytponmjipbcmlhaa
open Go.ChangeShapes Go.WideShapes Go.ChangeAt Go.RowKit

/-- A copy lies somewhere. -/
theorem copyF_lst (f : For) (s : Df.St) (w : World) (h : LstF w f s) :
    Calls Try.prog 16 #[.agg #[.slice f.a1 s.par.length f.c1, .slice f.a2 s.hei.length f.c2, .slice f.a3 s.ord.length f.c3, .slice f.a4 s.ori.length f.c4]] w fun e w' => ∃ a1 a2 a3 a4 c1 c2 c3 c4, e = .returned (.agg #[.slice a1 s.par.length c1, .slice a2 s.hei.length c2, .slice a3 s.ord.length c3, .slice a4 s.ori.length c4]) ∧ LstF w' ⟨a1, a2, a3, a4, c1, c2, c3, c4⟩ s ∧ Below w.heap.size w w' := by
  refine (copyF_any f s w h).mono ?_
  rintro e w' ⟨v1, v2, v3, v4, rfl, hown, hb⟩
  obtain ⟨g, rfl, rfl, rfl, rfl, hl⟩ := hown.lst ⟨h.n1, h.n2, h.n3, h.n4⟩
  exact ⟨g.a1, g.a2, g.a3, g.a4, g.c1, g.c2, g.c3, g.c4, rfl, hl, hb⟩

namespace lawDBack

set_option maxRecDepth 100000 in
set_option maxHeartbeats 16000000 in
theorem walk (f : For) (s : Df.St) (x : Int) (w : World) (hF : LstF w f s) (_hI : In64F s) (_hx : (Lit.int .i64 x).wf = true) :
    Calls Try.prog 6 #[f.val s, .int .i64 x] w fun e w' => e = .returned (.bool true) ∧ Below w.heap.size w w' := by
  obtain ⟨a1, a2, a3, a4, c1, c2, c3, c4⟩ := f
  change Calls _ _ #[.agg #[.slice a1 s.par.length c1, .slice a2 s.hei.length c2, .slice a3 s.ord.length c3, .slice a4 s.ori.length c4], _] _ _
  obtain ⟨W, hW⟩ : ∃ W, W = w.alloc (.cells #[.slice a1 s.par.length c1, .slice a2 s.hei.length c2, .slice a3 s.ord.length c3, .slice a4 s.ori.length c4] 28) := ⟨_, rfl⟩
  have hB0 : Below w.heap.size w W := by rw [hW]; exact (Below.refl _ _).alloc (Nat.le_refl _) _
  have g1 : W.heap[w.heap.size]? = some (.cells #[.slice a1 s.par.length c1, .slice a2 s.hei.length c2, .slice a3 s.ord.length c3, .slice a4 s.ori.length c4] 28 (0, 0)) := by
    rw [hW]
    exact heap_alloc_new w _
  have hlt := lt_of_block g1
  have HFW := Nu.hid (hF.later hB0)
  have HBOX : Hid (∀ V, Below W.heap.size W V → V.cell? ⟨w.heap.size, 0, none⟩ = some (.slice a1 s.par.length c1) ∧ V.cell? ⟨w.heap.size, 1, none⟩ = some (.slice a2 s.hei.length c2) ∧ V.cell? ⟨w.heap.size, 2, none⟩ = some (.slice a3 s.ord.length c3) ∧ V.cell? ⟨w.heap.size, 3, none⟩ = some (.slice a4 s.ori.length c4)) := fun V hV => by
    have k1 := (hV.block w.heap.size hlt).trans g1
    obtain ⟨x0, x1, x2, x3, -⟩ := four_cells k1
    exact ⟨x0, x1, x2, x3⟩
  have HCP : Hid (∀ V, Below W.heap.size W V → Calls Try.prog 16 #[.agg #[.slice a1 s.par.length c1, .slice a2 s.hei.length c2, .slice a3 s.ord.length c3, .slice a4 s.ori.length c4]] V fun e V' => ∃ a1 a2 a3 a4 c1 c2 c3 c4, e = .returned (.agg #[.slice a1 s.par.length c1, .slice a2 s.hei.length c2, .slice a3 s.ord.length c3, .slice a4 s.ori.length c4]) ∧ LstF V' ⟨a1, a2, a3, a4, c1, c2, c3, c4⟩ s ∧ Below V.heap.size V V') := fun V hV => copyF_lst ⟨a1, a2, a3, a4, c1, c2, c3, c4⟩ s V (HFW.out.later hV)
  have HRB : Hid (∀ V z, Below W.heap.size W V → Calls Try.prog 20 #[.agg #[.slice a1 s.par.length c1, .slice a2 s.hei.length c2, .slice a3 s.ord.length c3, .slice a4 s.ori.length c4], .int .i64 z] V fun e V' => e = .returned (.bool (Df.back s z)) ∧ Below V.heap.size V V') := fun V z hV => rback_any ⟨a1, a2, a3, a4, c1, c2, c3, c4⟩ s z V (HFW.out.later hV)
  have HBK : Hid (∀ V z b1 b2 b3 b4 d1 d2 d3 d4, LstF V ⟨b1, b2, b3, b4, d1, d2, d3, d4⟩ s → Calls Try.prog 17 #[.agg #[.slice b1 s.par.length d1, .slice b2 s.hei.length d2, .slice b3 s.ord.length d3, .slice b4 s.ori.length d4], .int .i64 z] V fun e V' => e = .returned (.bool (Df.back s z)) ∧ Below V.heap.size V V') := fun V z b1 b2 b3 b4 d1 d2 d3 d4 h => back_any ⟨b1, b2, b3, b4, d1, d2, d3, d4⟩ s z V h
  have hn4 := hF.n4
  have HAW := Nu.hid (awake_any W)
  have HWW := Nu.hid hW
  have HB0 := Nu.hid hB0
  clear hF g1 hB0 hW
  go_enter Try.func6, Try.ntmps6
  go_wp2_with (go_at_call 9; rw [← HWW.out]; refine HAW.out.mono ?_; rintro e w1 ⟨rfl, hb1⟩; have HB1 := Nu.hid hb1; clear hb1)
  go_loopw [5] (fun c wr => ∃ k : Nat, k ≤ 301 ∧ k ≤ s.ori.length + 2 ∧ c = .int .i64 ((k : Int) - 1) ∧ Below W.heap.size W wr) (fun c _ => 301 - ((intOf c) + 1).toNat)
  case atStart => exact ⟨0, by omega, by omega, rfl, HB1.out⟩
  case round =>
    obtain ⟨k, hk, hk2, rfl, hb⟩ := hrel
    obtain ⟨x0, x1, x2, x3⟩ := HBOX.out wr hb
    have HB := Nu.hid hb
    have hsz := hb.size
    have hbd : Below W.heap.size W wr.drew := hb.drew
    by_cases hc : (k : Int) - 1 ≤ (s.ori.length : Int) ∧ k < 301
    · obtain ⟨t1, t2⟩ := hc
      have t3 : (k : Int) - 1 < 300 := by omega
      obtain ⟨z, hz⟩ : ∃ z, (k : Int) - 1 = z := ⟨_, rfl⟩
      obtain ⟨bb, hbb⟩ : ∃ bb, Df.back s z = bb := ⟨_, rfl⟩
      have HR := Nu.hid fun V => HRB.out V z
      have HK := Nu.hid fun V => HBK.out V z
      rw [hbb] at HR HK
      have HZ := Nu.hid hz
      rw [hz] at t1 t3 ⊢
      have t4 : -1 ≤ z := by omega
      have HT2 := Nu.hid t2
      clear hb hz hbb t2
      cases bb <;>
      · go_wp2_with fail
        go_region_held3 (fun V => V.cell? ⟨w.heap.size, 0, none⟩ = some (.slice a1 s.par.length c1) ∧ V.cell? ⟨w.heap.size, 1, none⟩ = some (.slice a2 s.hei.length c2) ∧ V.cell? ⟨w.heap.size, 2, none⟩ = some (.slice a3 s.ord.length c3) ∧ V.cell? ⟨w.heap.size, 3, none⟩ = some (.slice a4 s.ori.length c4))
          (exact HBOX.out _ (by first | assumption | exact hbd))
          ((first
            | (go_at_call 16; refine (HCP.out _ (by first | assumption | exact hbd)).mono ?_; rintro e V1 ⟨b1, b2, b3, b4, d1, d2, d3, d4, rfl, hl1, hv1⟩; have hb1 : Below W.heap.size W V1 := Below.trans (by first | assumption | exact hbd) (hv1.mono (Below.size (by first | assumption | exact hbd))))
            | (go_at_call 17; refine (HK.out _ _ _ _ _ _ _ _ _ (by assumption)).mono ?_; rintro e V2 ⟨rfl, hv2⟩; have hb2 : Below W.heap.size W V2 := Below.trans (by first | assumption | exact hbd) (hv2.mono (Below.size (by first | assumption | exact hbd))))
            | (go_at_call 20; refine (HR.out _ (by first | assumption | exact hbd)).mono ?_; rintro e V3 ⟨rfl, hv3⟩; have hb3 : Below W.heap.size W V3 := Below.trans (by first | assumption | exact hbd) (hv3.mono (Below.size (by first | assumption | exact hbd))))))
        all_goals
          go_wp2
          go_roundw
          case rel => exact ⟨k + 1, by have := HT2.out; omega, by have := HZ.out; omega, by have := HZ.out; go_num, hb3⟩
          case measure => have := HZ.out; have := HT2.out; simp [intOf]; omega
    · obtain ⟨z, hz⟩ : ∃ z, (k : Int) - 1 = z := ⟨_, rfl⟩
      obtain ⟨bb, hbb⟩ : ∃ bb, Df.back s x = bb := ⟨_, rfl⟩
      have HR := Nu.hid fun V => HRB.out V x
      have HK := Nu.hid fun V => HBK.out V x
      rw [hbb] at HR HK
      have hz2 : ((s.ori.length : Int) < z) ∨ (z ≤ (s.ori.length : Int) ∧ 300 ≤ z) := by omega
      rw [hz]
      clear hb hz hbb hc hk hk2
      rcases hz2 with hz2 | ⟨hz2, hz3⟩ <;> cases bb <;>
      · go_wp2_with fail
        go_region_held3 (fun V => V.cell? ⟨w.heap.size, 0, none⟩ = some (.slice a1 s.par.length c1) ∧ V.cell? ⟨w.heap.size, 1, none⟩ = some (.slice a2 s.hei.length c2) ∧ V.cell? ⟨w.heap.size, 2, none⟩ = some (.slice a3 s.ord.length c3) ∧ V.cell? ⟨w.heap.size, 3, none⟩ = some (.slice a4 s.ori.length c4))
          (exact HBOX.out _ (by first | assumption | exact hbd))
          ((first
            | (go_at_call 16; refine (HCP.out _ (by first | assumption | exact hbd)).mono ?_; rintro e V1 ⟨b1, b2, b3, b4, d1, d2, d3, d4, rfl, hl1, hv1⟩; have hb1 : Below W.heap.size W V1 := Below.trans (by first | assumption | exact hbd) (hv1.mono (Below.size (by first | assumption | exact hbd))))
            | (go_at_call 17; refine (HK.out _ _ _ _ _ _ _ _ _ (by assumption)).mono ?_; rintro e V2 ⟨rfl, hv2⟩; have hb2 : Below W.heap.size W V2 := Below.trans (by first | assumption | exact hbd) (hv2.mono (Below.size (by first | assumption | exact hbd))))
            | (go_at_call 20; refine (HR.out _ (by first | assumption | exact hbd)).mono ?_; rintro e V3 ⟨rfl, hv3⟩; have hb3 : Below W.heap.size W V3 := Below.trans (by first | assumption | exact hbd) (hv3.mono (Below.size (by first | assumption | exact hbd))))))
        all_goals
          go_wp2
          go_ret
          exact ⟨rfl, HB0.out.trans (hb3.mono HB0.out.size)⟩

set_option maxRecDepth 100000 in
/-- What the walk gives, for every argument and every world. -/
theorem contract (H : Type) (enc : TypeId × Value → H) (W : World) (base : Nat) (args : Array Value) (ds gs : List (DataW H)) (before : List MemPlace)
    (hval : ∀ (j : Nat) t v, Try.f6.params[j]? = some t → args[j]? = some v → Value.okWide Try.prog W .any base t v)
    (hW : DataW.Whole enc Try.prog Try.f6.params.toList Rows.dfsBackSpec.vars false W args.toList ds gs before)
    (hsz : (DataW.weightsEach Try.prog (Try.f6.params.toList ++ (OpenSpec.ofChange Rows.dfsBackSpec).bare.plain.varTypes Try.prog) (ds ++ gs)).all (· ≤ reachBytes) = true)
    :
    Calls Try.prog 6 args W fun e W' => ∃ v, e = .returned v ∧ Rows.dfsBackSpec.post enc Try.prog Try.f6 false true false false W args v W' := by
  have hW' := hW
  obtain ⟨p, q, hA0, hV, rfl, hfz, hnd⟩ := hW
  have hA : DataW.TrodAll enc Try.prog W 0 (fun _ => true) true Try.f6.params.toList args.toList ds p := hA0
  rw [Try.params6] at hA hval hsz
  obtain ⟨v0, vs0, d0, ds0, p0, q0, hargs, rfl, rfl, h0, r0⟩ := trodAll_cons hA
  obtain ⟨v1, vs1, d1, ds1, p1, q1, rfl, rfl, rfl, h1, r1⟩ := trodAll_cons r0
  obtain ⟨rfl, rfl, rfl⟩ := trodAll_nil r1
  obtain rfl : args = #[v0, v1] := by cases args; simp_all
  obtain ⟨rfl, rfl⟩ := trodVars_none hV
  have k0 := h0
  have lt0 : ∀ x ∈ p0, x.block < W.heap.size := by obtain ⟨m, hm⟩ := k0; exact DataW.trod_lt m _ _ _ hm
  obtain ⟨f0, s0, rfl, w0, u0⟩ := forest_of_trod (j := 0) (hval 0 28 v0 rfl rfl) h0 hsz rfl rfl
  obtain ⟨a1, rfl, rfl, rfl, w1⟩ := open_int Try.underlying3 (hval 1 3 v1 rfl rfl) h1
  clear hA0
  refine (walk f0 s0 a1 W w0 u0 w1).mono fun e W' ⟨he, bel⟩ => ?_
  subst he
  exact ⟨_, rfl, _, _, _, [], _, [], hW', trodAll_mk1 (shut_bool Try.underlying4 _), (trodAll_cons_mk (Below.trod laidOut (by kernel_rfl) (of_decide_eq_true (by kernel_rfl)) k0 bel lt0) (trodAll_cons_mk (shut_int Try.underlying3 w1) trodAll_mk0)), rfl, bel.frame _, fun h => by cases h⟩

theorem laid_met (os : Os) : laidMet Try.prog Rows.dfsBackRow.laid ((settled os).forCall (fun _ _ => 0) ⟨#[], #[.agg #[.slice none 0 0, .slice none 0 0, .slice none 0 0, .slice none 0 0], .int .i64 0], []⟩).memory :=
  laidMet_of_run' 100 (by kernel_rfl) (by kernel_rfl)
theorem reads (os : Os) {H : Type} (enc : TypeId × Value → H) : ∃ places, DataW.whole enc Try.prog ((settled os).forCall (fun _ _ => 0) ⟨#[], #[.agg #[.slice none 0 0, .slice none 0 0, .slice none 0 0, .slice none 0 0], .int .i64 0], []⟩).memory Try.f6.params.toList Rows.dfsBackSpec.vars false (#[.agg #[.slice none 0 0, .slice none 0 0, .slice none 0 0, .slice none 0 0], .int .i64 0] : Array Value).toList 8 = some ([.agg [.nil, .nil, .nil, .nil], .lit (.int .i64 0)], [], places) :=
  ⟨[], by kernel_rfl⟩

set_option maxRecDepth 100000 in
theorem lifted (os : Os) (started : os.Started) (H : Type) (enc : TypeId × Value → H) (F : Stop.Interp) :
    ReturnsInHanded {} Try.checked os 6 .any ((OpenSpec.ofChange Rows.dfsBackSpec).preRow enc Try.prog Try.f6 Rows.dfsBackRow.domain false Rows.dfsBackRow.laid) (((OpenSpec.ofChange Rows.dfsBackSpec).at F).post enc Try.prog Try.f6 false true false false) := by
  obtain ⟨places, hx⟩ := reads os enc
  refine returnsInHanded_of_row (C := Try.checked) (s := (OpenSpec.ofChange Rows.dfsBackSpec)) own started (by kernel_rfl) Try.func6
    (witness_row_at (enc := enc) (C := Try.checked) false (settled os) #[.agg #[.slice none 0 0, .slice none 0 0, .slice none 0 0, .slice none 0 0], .int .i64 0] rfl (by kernel_rfl) (by kernel_rfl) (by kernel_rfl)
      (OpenSpec.preRow_of_cond 8 hx (by kernel_rfl) (fun k hk => by cases hk) (by kernel_rfl) (laid_met os))) ?_
  intro W base args ds gs before hval hW _ _ hsz _ _ _
  exact contract H enc W base args ds gs before hval hW hsz 

theorem said : Rows.DfsBackSaid :=
  OpenClaim.holds_of_cond 6 Try.f6 rfl rfl rfl rfl rfl rfl rfl ⟨rfl, rfl, rfl, rfl, rfl⟩ rfl rfl rfl rfl rfl (by kernel_rfl) Try.func6 (by kernel_rfl)
    (of_decide_eq_true (by kernel_rfl)) (by unfold Func.isWrapper; first | (rw [if_pos (by decide +kernel)]; kernel_rfl) | (rw [if_neg (by decide +kernel)]; exact ⟨rfl, rfl⟩))
    (fun os started H enc _ F => by rw [OpenClaim.pre_eq_preRow]; exact lifted os started H enc F)

end lawDBack

theorem dfsBack_holds : Rows.DfsBackSaid := lawDBack.said

#print axioms dfsBack_holds
end Go.Proofs.Ytponmjipbcmlhaa
