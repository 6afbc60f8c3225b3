/-
  Proved: for every graph the law DfsWalks answers true, and the graph reads afterwards as before. No condition.
-/
import Derived.Test.YtponmjipbcmlhaaDfLaw
import Derived.Test.YtponmjipbcmlhaaDfRWalk
import Derived.Test.YtponmjipbcmlhaaDfAwake
import Derived.Test.YtponmjipbcmlhaaCsRV
import Derived.Deep.RegionHeld3
namespace Go.Proofs.Ytponmjipbcmlhaa
open Go.ChangeShapes Go.WideShapes Go.ChangeAt Go.RowKit
namespace lawDWalks

/-- The empty forest lies nowhere. -/
theorem none_lst (w : World) : LstF w ⟨none, none, none, none, 0, 0, 0, 0⟩ ⟨[], [], [], []⟩ :=
  ⟨⟨rfl, IntsAt.nil _ _, fun _ => ⟨rfl, rfl⟩⟩, ⟨rfl, IntsAt.nil _ _, fun _ => ⟨rfl, rfl⟩⟩, ⟨rfl, IntsAt.nil _ _, fun _ => ⟨rfl, rfl⟩⟩, ⟨rfl, IntsAt.nil _ _, fun _ => ⟨rfl, rfl⟩⟩, by decide, by decide, by decide, by decide⟩

set_option maxRecDepth 100000 in
set_option maxHeartbeats 16000000 in
theorem walk (n : Int) (ao : Option Addr) (ca : Nat) (es : List (Int × Int)) (w : World) (_ : -9223372036854775808 ≤ n ∧ n ≤ 9223372036854775807) (hq : PairsIn w ao es.length ca es) (hl : es.length * 16 ≤ 140737488351232) :
    Calls Try.prog 3 #[.agg #[.int .i64 n, .slice ao es.length ca]] w fun e w' => e = .returned (.bool true) ∧ Below w.heap.size w w' := by
  obtain ⟨W, hW⟩ : ∃ W, W = w.alloc (.cells #[.int .i64 n, .slice ao es.length ca] 24) := ⟨_, rfl⟩
  have hB0 : Below w.heap.size w W := by rw [hW]; exact (Below.refl _ _).alloc (Nat.le_refl _) _
  have g1 : W.heap[w.heap.size]? = some (.cells #[.int .i64 n, .slice ao es.length ca] 24 (0, 0)) := by rw [hW]; exact heap_alloc_new w _
  have hlt := lt_of_block g1
  have HBOX : Hid (∀ V, Below W.heap.size W V → V.cell? ⟨w.heap.size, 0, none⟩ = some (.int .i64 n) ∧ V.cell? ⟨w.heap.size, 1, none⟩ = some (.slice ao es.length ca)) := fun V hV => by
    obtain ⟨x0, x1, -⟩ := pair_cells ((hV.block w.heap.size hlt).trans g1)
    exact ⟨x0, x1⟩
  have hat := hq.hat.later hB0
  have HLW : Hid (∀ V, Below W.heap.size W V → Calls Try.prog 10 #[.agg #[.int .i64 n, .slice ao es.length ca]] V (WalkPost n es V)) := fun V hV => lwalk_any n ao ca es V (hat.later hV) (fun h => (hq.hnil h).2) (by omega)
  have hvalid := fun V (hV : Below W.heap.size W V) => r4valid_any n ao ca es V (hat.later hV) (by omega)
  unfold graphVal at hvalid
  have HAT := Nu.hid hat
  have HAW := Nu.hid (awake_any W)
  have HWW := Nu.hid hW
  have HB0 := Nu.hid hB0
  cases hv : Si.valid n es with
  | false =>
    rw [hv] at hvalid
    have HVALID := Nu.hid hvalid
    have HNV := Nu.hid hv
    clear hq hB0 g1 hW hat hvalid hv
    go_enter Try.func3, Try.ntmps3
    go_wp2_with (go_at_call 9; rw [← HWW.out]; refine HAW.out.mono ?_; rintro e w1 ⟨rfl, hb1⟩; refine Hid.out ?_)
    refine Nu.hid ?_
    obtain ⟨x0, x1⟩ := HBOX.out w1 hb1
    have HLW1 := Nu.hid (HLW.out w1 hb1)
    have HB1 := Nu.hid hb1
    have hs1 := hb1.size
    clear hb1
    go_wp2_with (go_at_call 10; refine HLW1.out.mono ?_; rintro e w2 ⟨v1, v2, v3, v4, s, z, rfl, hown, hcase, hb2⟩; refine Hid.out ?_)
    refine Nu.hid ?_
    obtain ⟨rfl, rfl⟩ : s = ⟨[], [], [], []⟩ ∧ z = 1 := by
      rcases hcase with ⟨m, rfl, hval, _⟩ | ⟨_, h1, h2⟩
      · have h := HNV.out
        rw [Si.valid_iff.2 hval] at h
        cases h
      · exact ⟨h1, h2⟩
    obtain ⟨f, rfl, rfl, rfl, rfl, hl2⟩ := hown.lst (by decide)
    obtain ⟨a1, a2, a3, a4, c1, c2, c3, c4⟩ := f
    have hb2' := HB1.out.trans (hb2.mono HB1.out.size)
    obtain ⟨w3, hw3⟩ : ∃ w3, w3 = w2.alloc (.cells #[.slice a1 0 c1, .slice a2 0 c2, .slice a3 0 c3, .slice a4 0 c4] 28) := ⟨_, rfl⟩
    have hb3 : Below w2.heap.size w2 w3 := by rw [hw3]; exact (Below.refl _ _).alloc (Nat.le_refl _) _
    have g3 : w3.heap[w2.heap.size]? = some (.cells #[.slice a1 0 c1, .slice a2 0 c2, .slice a3 0 c3, .slice a4 0 c4] 28 (0, 0)) := by rw [hw3]; exact heap_alloc_new w2 _
    have hb3' := hb2'.trans (hb3.mono hb2'.size)
    obtain ⟨x0, x1⟩ := HBOX.out w3 hb3'
    have HV3 := Nu.hid (HVALID.out w3 hb3')
    have HG3 := Nu.hid g3
    have HW3 := Nu.hid hw3
    have HB3 := Nu.hid hb3'
    have HL3 := Nu.hid (hl2.later hb3)
    rw [hw3] at x0 x1
    clear hown hcase hb2 hl2 hb2' hb3 g3 hb3' hw3 HLW HLW1
    go_wp2_with (go_at_call 11; simp only [List.length_nil]; rw [← HW3.out]; refine HV3.out.mono ?_; rintro e w4 ⟨rfl, hb4⟩; refine Hid.out ?_)
    refine Nu.hid ?_
    have g4 := (hb4.block w2.heap.size (lt_of_block HG3.out)).trans HG3.out
    obtain ⟨q0, q1, q2, q3, -⟩ := four_cells g4
    have hsame : Calls Try.prog 12 #[.agg #[.slice a1 0 c1, .slice a2 0 c2, .slice a3 0 c3, .slice a4 0 c4], .agg #[.slice none 0 0, .slice none 0 0, .slice none 0 0, .slice none 0 0]] w4 fun e w' => e = .returned (.bool true) ∧ Below w4.heap.size w4 w' := sameF_any ⟨a1, a2, a3, a4, c1, c2, c3, c4⟩ ⟨none, none, none, none, 0, 0, 0, 0⟩ ⟨[], [], [], []⟩ w4 (HL3.out.later hb4) (none_lst w4)
    have HSAME := Nu.hid hsame
    have HB4 := Nu.hid (HB3.out.trans (hb4.mono HB3.out.size))
    clear hb4 g4 hsame
    go_wp2_with (go_at_call 12; refine HSAME.out.mono ?_; rintro e w5 ⟨rfl, hb5⟩)
    go_ret
    exact ⟨rfl, HB0.out.trans ((HB4.out.trans (hb5.mono HB4.out.size)).mono HB0.out.size)⟩
  | true =>
    rw [hv] at hvalid
    obtain ⟨m, rfl⟩ : ∃ m : Nat, n = (m : Int) := ⟨n.toNat, by have := (Si.valid_iff.1 hv).lo; omega⟩
    have HVAL := Nu.hid (Si.valid_iff.1 hv)
    have HVALID := Nu.hid hvalid
    have HNV := Nu.hid hv
    clear hq hB0 g1 hW hat hvalid hv
    go_enter Try.func3, Try.ntmps3
    go_wp2_with (go_at_call 9; rw [← HWW.out]; refine HAW.out.mono ?_; rintro e w1 ⟨rfl, hb1⟩; refine Hid.out ?_)
    refine Nu.hid ?_
    obtain ⟨x0, x1⟩ := HBOX.out w1 hb1
    have HLW1 := Nu.hid (HLW.out w1 hb1)
    have HB1 := Nu.hid hb1
    have hs1 := hb1.size
    clear hb1
    go_wp2_with (go_at_call 10; refine HLW1.out.mono ?_; rintro e w2 ⟨v1, v2, v3, v4, s, z, rfl, hown, hcase, hb2⟩; refine Hid.out ?_)
    refine Nu.hid ?_
    obtain ⟨hwk, rfl⟩ : Df.Wk m es m s ∧ z = 0 := by
      rcases hcase with ⟨m', hm, _, h1, h2⟩ | ⟨h, _⟩
      · obtain rfl : m = m' := by omega
        exact ⟨h1, h2⟩
      · rw [HNV.out] at h; cases h
    obtain ⟨f, rfl, rfl, rfl, rfl, hl2⟩ := hown.lst (walk_len HVAL.out hwk)
    obtain ⟨a1, a2, a3, a4, c1, c2, c3, c4⟩ := f
    have hb2' := HB1.out.trans (hb2.mono HB1.out.size)
    obtain ⟨w3, hw3⟩ : ∃ w3, w3 = w2.alloc (.cells #[.slice a1 s.par.length c1, .slice a2 s.hei.length c2, .slice a3 s.ord.length c3, .slice a4 s.ori.length c4] 28) := ⟨_, rfl⟩
    have hb3 : Below w2.heap.size w2 w3 := by rw [hw3]; exact (Below.refl _ _).alloc (Nat.le_refl _) _
    have g3 : w3.heap[w2.heap.size]? = some (.cells #[.slice a1 s.par.length c1, .slice a2 s.hei.length c2, .slice a3 s.ord.length c3, .slice a4 s.ori.length c4] 28 (0, 0)) := by rw [hw3]; exact heap_alloc_new w2 _
    have hb3' := hb2'.trans (hb3.mono hb2'.size)
    obtain ⟨x0, x1⟩ := HBOX.out w3 hb3'
    have HV3 := Nu.hid (HVALID.out w3 hb3')
    have HG3 := Nu.hid g3
    have HW3 := Nu.hid hw3
    have HB3 := Nu.hid hb3'
    have HL3 := Nu.hid (hl2.later hb3)
    have HWK := Nu.hid hwk
    rw [hw3] at x0 x1
    clear hown hcase hb2 hl2 hb2' hb3 g3 hb3' hw3 HLW HLW1 hwk
    go_wp2_with (go_at_call 11; rw [← HW3.out]; refine HV3.out.mono ?_; rintro e w4 ⟨rfl, hb4⟩; refine Hid.out ?_)
    refine Nu.hid ?_
    have g4 := (hb4.block w2.heap.size (lt_of_block HG3.out)).trans HG3.out
    have hb4' := HB3.out.trans (hb4.mono HB3.out.size)
    have hs4 := lt_of_block g4
    have HS : Hid (∀ V, Below w4.heap.size w4 V → (V.cell? ⟨w2.heap.size, 0, none⟩ = some (.slice a1 s.par.length c1) ∧ V.cell? ⟨w2.heap.size, 1, none⟩ = some (.slice a2 s.hei.length c2) ∧ V.cell? ⟨w2.heap.size, 2, none⟩ = some (.slice a3 s.ord.length c3) ∧ V.cell? ⟨w2.heap.size, 3, none⟩ = some (.slice a4 s.ori.length c4)) ∧ V.cell? ⟨w.heap.size, 0, none⟩ = some (.int .i64 (m : Int)) ∧ V.cell? ⟨w.heap.size, 1, none⟩ = some (.slice ao es.length ca)) := fun V hV => by
      obtain ⟨q0, q1, q2, q3, -⟩ := four_cells ((hV.block w2.heap.size hs4).trans g4)
      obtain ⟨x0, x1⟩ := HBOX.out V (hb4'.trans (hV.mono hb4'.size))
      exact ⟨⟨q0, q1, q2, q3⟩, x0, x1⟩
    have HRW : Hid (∀ V, Below w4.heap.size w4 V → Calls Try.prog 13 #[.agg #[.int .i64 (m : Int), .slice ao es.length ca]] V fun e V' => ∃ b1 b2 b3 b4 d1 d2 d3 d4, e = .returned (.agg #[.slice b1 s.par.length d1, .slice b2 s.hei.length d2, .slice b3 s.ord.length d3, .slice b4 s.ori.length d4]) ∧ LstF V' ⟨b1, b2, b3, b4, d1, d2, d3, d4⟩ s ∧ Below V.heap.size V V') := fun V hV => by
      refine (rwalk_any m ao ca es V (HAT.out.later (hb4'.trans (hV.mono hb4'.size))) HVAL.out).mono ?_
      rintro e V' ⟨f, s', rfl, hwk', hl', hb⟩
      obtain rfl := HWK.out.unique hwk'
      exact ⟨f.a1, f.a2, f.a3, f.a4, f.c1, f.c2, f.c3, f.c4, rfl, hl', hb⟩
    have HSM : Hid (∀ V b1 b2 b3 b4 d1 d2 d3 d4, Below w4.heap.size w4 V → LstF V ⟨b1, b2, b3, b4, d1, d2, d3, d4⟩ s → Calls Try.prog 12 #[.agg #[.slice a1 s.par.length c1, .slice a2 s.hei.length c2, .slice a3 s.ord.length c3, .slice a4 s.ori.length c4], .agg #[.slice b1 s.par.length d1, .slice b2 s.hei.length d2, .slice b3 s.ord.length d3, .slice b4 s.ori.length d4]] V fun e V' => e = .returned (.bool true) ∧ Below V.heap.size V V') := fun V b1 b2 b3 b4 d1 d2 d3 d4 hV hl' => sameF_any ⟨a1, a2, a3, a4, c1, c2, c3, c4⟩ ⟨b1, b2, b3, b4, d1, d2, d3, d4⟩ s V ((HL3.out.later hb4).later hV) hl'
    have HB4 := Nu.hid hb4'
    have hbd : Below w4.heap.size w4 w4.drew := (Below.refl _ _).drew
    clear hb4 g4 hb4' hs4
    go_wp2_with fail
    go_region_held3 (fun V => (V.cell? ⟨w2.heap.size, 0, none⟩ = some (.slice a1 s.par.length c1) ∧ V.cell? ⟨w2.heap.size, 1, none⟩ = some (.slice a2 s.hei.length c2) ∧ V.cell? ⟨w2.heap.size, 2, none⟩ = some (.slice a3 s.ord.length c3) ∧ V.cell? ⟨w2.heap.size, 3, none⟩ = some (.slice a4 s.ori.length c4)) ∧ V.cell? ⟨w.heap.size, 0, none⟩ = some (.int .i64 (m : Int)) ∧ V.cell? ⟨w.heap.size, 1, none⟩ = some (.slice ao es.length ca))
      (exact HS.out _ (by first | assumption | exact hbd))
      ((first
        | (go_at_call 13; refine (HRW.out _ (by first | assumption | exact hbd)).mono ?_; rintro e V1 ⟨b1, b2, b3, b4, d1, d2, d3, d4, rfl, hl1, hv1⟩; have hb1 : Below w4.heap.size w4 V1 := Below.trans (by first | assumption | exact hbd) (hv1.mono (Below.size (by first | assumption | exact hbd))))
        | (go_at_call 12; refine (HSM.out _ _ _ _ _ _ _ _ _ (by first | assumption | exact hbd) (by assumption)).mono ?_; rintro e V2 ⟨rfl, hv2⟩; have hb2 : Below w4.heap.size w4 V2 := Below.trans (by first | assumption | exact hbd) (hv2.mono (Below.size (by first | assumption | exact hbd))))))
    all_goals
      go_wp2
      go_ret
      exact ⟨rfl, HB0.out.trans ((HB4.out.trans (hb2.mono HB4.out.size)).mono HB0.out.size)⟩

set_option maxRecDepth 100000 in
/-- What the walk gives, for every argument and every world. -/
theorem contract (H : Type) (enc : TypeId × Value → H) (W : World) (base : Nat) (args : Array Value) (ds gs : List (DataW H)) (before : List MemPlace)
    (hval : ∀ (j : Nat) t v, Try.f3.params[j]? = some t → args[j]? = some v → Value.okWide Try.prog W .any base t v)
    (hW : DataW.Whole enc Try.prog Try.f3.params.toList Rows.dfsWalksSpec.vars false W args.toList ds gs before)
    (hsz : (DataW.weightsEach Try.prog (Try.f3.params.toList ++ (OpenSpec.ofChange Rows.dfsWalksSpec).bare.plain.varTypes Try.prog) (ds ++ gs)).all (· ≤ reachBytes) = true)
    :
    Calls Try.prog 3 args W fun e W' => ∃ v, e = .returned v ∧ Rows.dfsWalksSpec.post enc Try.prog Try.f3 false true false false W args v W' := by
  have hW' := hW
  obtain ⟨p, q, hA0, hV, rfl, hfz, hnd⟩ := hW
  have hA : DataW.TrodAll enc Try.prog W 0 (fun _ => true) true Try.f3.params.toList args.toList ds p := hA0
  rw [Try.params3] at hA hval hsz
  obtain ⟨v0, vs0, d0, ds0, p0, q0, hargs, rfl, rfl, h0, r0⟩ := trodAll_cons hA
  obtain ⟨rfl, rfl, rfl⟩ := trodAll_nil r0
  obtain rfl : args = #[v0] := by cases args; simp_all
  obtain ⟨rfl, rfl⟩ := trodVars_none hV
  have k0 := h0
  have lt0 : ∀ x ∈ p0, x.block < W.heap.size := by obtain ⟨m, hm⟩ := k0; exact DataW.trod_lt m _ _ _ hm
  obtain ⟨n0, a0, cap0, q0, rfl, x0, w0, u0⟩ := graph_of_trod (j := 0) (hval 0 24 v0 rfl rfl) h0 hsz rfl rfl
  clear hA0
  refine (walk n0 a0 cap0 q0 W x0 w0 u0).mono fun e W' ⟨he, bel⟩ => ?_
  subst he
  exact ⟨_, rfl, _, _, _, [], _, [], hW', trodAll_mk1 (shut_bool Try.underlying4 _), (trodAll_cons_mk (Below.trod laidOut (by kernel_rfl) (of_decide_eq_true (by kernel_rfl)) k0 bel lt0) trodAll_mk0), rfl, bel.frame _, fun h => by cases h⟩

theorem laid_met (os : Os) : laidMet Try.prog Rows.dfsWalksRow.laid ((settled os).forCall (fun _ _ => 0) ⟨#[], #[.agg #[.int .i64 0, .slice none 0 0]], []⟩).memory :=
  laidMet_of_run' 100 (by kernel_rfl) (by kernel_rfl)
theorem reads (os : Os) {H : Type} (enc : TypeId × Value → H) : ∃ places, DataW.whole enc Try.prog ((settled os).forCall (fun _ _ => 0) ⟨#[], #[.agg #[.int .i64 0, .slice none 0 0]], []⟩).memory Try.f3.params.toList Rows.dfsWalksSpec.vars false (#[.agg #[.int .i64 0, .slice none 0 0]] : Array Value).toList 8 = some ([.agg [.lit (.int .i64 0), .nil]], [], places) :=
  ⟨[], by kernel_rfl⟩

set_option maxRecDepth 100000 in
theorem lifted (os : Os) (started : os.Started) (H : Type) (enc : TypeId × Value → H) (F : Stop.Interp) :
    ReturnsInHanded {} Try.checked os 3 .any ((OpenSpec.ofChange Rows.dfsWalksSpec).preRow enc Try.prog Try.f3 Rows.dfsWalksRow.domain false Rows.dfsWalksRow.laid) (((OpenSpec.ofChange Rows.dfsWalksSpec).at F).post enc Try.prog Try.f3 false true false false) := by
  obtain ⟨places, hx⟩ := reads os enc
  refine returnsInHanded_of_row (C := Try.checked) (s := (OpenSpec.ofChange Rows.dfsWalksSpec)) own started (by kernel_rfl) Try.func3
    (witness_row_at (enc := enc) (C := Try.checked) false (settled os) #[.agg #[.int .i64 0, .slice none 0 0]] rfl (by kernel_rfl) (by kernel_rfl) (by kernel_rfl)
      (OpenSpec.preRow_of_cond 8 hx (by kernel_rfl) (fun k hk => by cases hk) (by kernel_rfl) (laid_met os))) ?_
  intro W base args ds gs before hval hW _ _ hsz _ _ _
  exact contract H enc W base args ds gs before hval hW hsz 

theorem said : Rows.DfsWalksSaid :=
  OpenClaim.holds_of_cond 3 Try.f3 rfl rfl rfl rfl rfl rfl rfl ⟨rfl, rfl, rfl, rfl, rfl⟩ rfl rfl rfl rfl rfl (by kernel_rfl) Try.func3 (by kernel_rfl)
    (of_decide_eq_true (by kernel_rfl)) (by unfold Func.isWrapper; first | (rw [if_pos (by decide +kernel)]; kernel_rfl) | (rw [if_neg (by decide +kernel)]; exact ⟨rfl, rfl⟩))
    (fun os started H enc _ F => by rw [OpenClaim.pre_eq_preRow]; exact lifted os started H enc F)

end lawDWalks

theorem dfsWalks_holds : Rows.DfsWalksSaid := lawDWalks.said

#print axioms dfsWalks_holds
end Go.Proofs.Ytponmjipbcmlhaa
