/-
  Proved: for every graph, forest and number the law LowReturns answers true, and all reads afterwards as before. No condition.
-/
import Derived.Test.YtmgoahbloppdmaaGreatMg11
import Derived.Test.YtmgoahbloppdmaaGreatMg28
import Derived.Test.YtmgoahbloppdmaaGreatMg35
import Derived.Test.YtmgoahbloppdmaaGreatMg38
namespace Go.Proofs.YtmgoahbloppdmaaGreat
open Go.ChangeShapes Go.WideShapes Go.ChangeAt Go.RowKit
namespace lawLRet

set_option maxRecDepth 100000 in
set_option maxHeartbeats 16000000 in
theorem walk (n : Int) (ao : Option Addr) (ca : Nat) (es : List (Int × Int)) (f : For) (s : Df.St) (x : Int) (w : World) (_ : -9223372036854775808 ≤ n ∧ n ≤ 9223372036854775807) (hq : PairsIn w ao es.length ca es) (hl : es.length * 16 ≤ 140737488351232) (hF : LstF w f s) (hI : In64F s ∧ s.ord.length ≤ f.c3) (_ : (Lit.int IntKind.i64 x).wf = true) :
    Calls Tryz.prog 4 #[.agg #[.int .i64 n, .slice ao es.length ca], f.val s, .int .i64 x] w fun e w' => e = .returned (.bool true) ∧ Below w.heap.size w w' := by
  have hcap := hI.2
  clear hI
  obtain ⟨a1, a2, a3, a4, c1, c2, c3, c4⟩ := f
  change Calls _ _ #[_, .agg #[.slice a1 s.par.length c1, .slice a2 s.hei.length c2, .slice a3 s.ord.length c3, .slice a4 s.ori.length c4], _] _ _
  obtain ⟨W, hW⟩ : ∃ W, W = (w.alloc (.cells #[.int .i64 n, .slice ao es.length ca] 24)).alloc (.cells #[.slice a1 s.par.length c1, .slice a2 s.hei.length c2, .slice a3 s.ord.length c3, .slice a4 s.ori.length c4] 27) := ⟨_, rfl⟩
  have hB0 : Below w.heap.size w W := by rw [hW]; exact ((Below.refl _ _).alloc (Nat.le_refl _) _).alloc (by simp) _
  have g1 : W.heap[w.heap.size]? = some (.cells #[.int .i64 n, .slice ao es.length ca] 24 (0, 0)) := by
    rw [hW, Below.heap_alloc _ _ _ (by simp)]
    exact heap_alloc_new w _
  have g2 : W.heap[w.heap.size + 1]? = some (.cells #[.slice a1 s.par.length c1, .slice a2 s.hei.length c2, .slice a3 s.ord.length c3, .slice a4 s.ori.length c4] 27 (0, 0)) := by
    rw [hW]
    exact alloc_at (by simp)
  have lt1 := lt_of_block g1
  have lt2 := lt_of_block g2
  have hat := hq.hat.later hB0
  have hFW := hF.later hB0
  have HBOX : Hid (∀ V, Below W.heap.size W V → V.cell? ⟨w.heap.size, 0, none⟩ = some (.int .i64 n) ∧ V.cell? ⟨w.heap.size, 1, none⟩ = some (.slice ao es.length ca) ∧ V.cell? ⟨w.heap.size + 1, 0, none⟩ = some (.slice a1 s.par.length c1) ∧ V.cell? ⟨w.heap.size + 1, 1, none⟩ = some (.slice a2 s.hei.length c2) ∧ V.cell? ⟨w.heap.size + 1, 2, none⟩ = some (.slice a3 s.ord.length c3) ∧ V.cell? ⟨w.heap.size + 1, 3, none⟩ = some (.slice a4 s.ori.length c4)) := fun V hV => by
    obtain ⟨x0, x1, -⟩ := pair_cells ((hV.block w.heap.size lt1).trans g1)
    obtain ⟨q0, q1, q2, q3, -⟩ := four_cells ((hV.block (w.heap.size + 1) lt2).trans g2)
    exact ⟨x0, x1, q0, q1, q2, q3⟩
  have HRR : Hid (∀ y V, Below W.heap.size W V → Calls Tryz.prog 10 #[.agg #[.int .i64 n, .slice ao es.length ca], .agg #[.slice a1 s.par.length c1, .slice a2 s.hei.length c2, .slice a3 s.ord.length c3, .slice a4 s.ori.length c4], .int .i64 y] V fun r w' => ∃ a k c l z, r = .returned (.tuple #[.slice a k c, .int .i64 z]) ∧ RetIs n es s y l z ∧ OwnZ w' V.heap.size (.slice a k c) (zs l) ∧ Below V.heap.size V w') := fun y V hV =>
    (r8returns_any n ao ca es ⟨a1, a2, a3, a4, c1, c2, c3, c4⟩ s y V (hat.later hV) (by omega) (hFW.later hV)).mono fun r w' h => RetPost.form h
  have HPR : Hid (∀ y V, Below W.heap.size W V → Calls Tryz.prog 11 #[.agg #[.int .i64 n, .slice ao es.length ca], .agg #[.slice a1 s.par.length c1, .slice a2 s.hei.length c2, .slice a3 s.ord.length c3, .slice a4 s.ori.length c4], .int .i64 y] V fun r w' => ∃ a k c l z, r = .returned (.tuple #[.slice a k c, .int .i64 z]) ∧ RetIs n es s y l z ∧ OwnZ w' V.heap.size (.slice a k c) (zs l) ∧ Below V.heap.size V w') := fun y V hV =>
    (pret_any n ao ca es ⟨a1, a2, a3, a4, c1, c2, c3, c4⟩ s y V (hat.later hV) (by omega) (hFW.later hV) hcap).mono fun r w' h => RetPost.form h
  have HFX := Nu.hid (fixed8_any W)
  have HWW := Nu.hid hW
  have HB0 := Nu.hid hB0
  have hlen : es.length ≤ 8796093021952 := by omega
  clear hF g1 g2 hB0 hW hat hq hFW hl hcap
  go_enter Tryz.func4, Tryz.ntmps4
  go_wp2_with (go_at_call 6; rw [← HWW.out]; refine HFX.out.mono ?_; rintro e w1 ⟨rfl, hb1⟩; have HB1 := Nu.hid hb1; have hs1 := hb1.size; clear hb1)
  go_loopw [7] (fun cv wr => ∃ k : Nat, k ≤ es.length + 1 ∧ k ≤ 201 ∧ cv = .int .i64 (k : Int) ∧ Below W.heap.size W wr) (fun cv _ => es.length + 1 - (intOf cv).toNat)
  case atStart => exact ⟨0, Nat.zero_le _, Nat.zero_le _, rfl, HB1.out⟩
  case round =>
    obtain ⟨k, hk, hk2, rfl, hb⟩ := hrel
    have HB := Nu.hid hb
    obtain ⟨x0, x1, x2, x3, x4, x5⟩ := HBOX.out _ hb
    have hsr := hb.size
    clear hb
    by_cases hc : k ≤ es.length ∧ k ≤ 200
    · obtain ⟨t1, t2⟩ := hc
      have t1' : (k : Int) ≤ (es.length : Int) := by omega
      have t2' : (k : Int) ≤ 200 := by omega
      have h3 : ((k : Int) = (es.length : Int)) ∨ (¬ (k : Int) = (es.length : Int) ∧ (k : Int) = 200) ∨ (¬ (k : Int) = (es.length : Int) ∧ ¬ (k : Int) = 200) := by omega
      have HT : Hid (k ≤ es.length ∧ k ≤ 200) := ⟨t1, t2⟩
      clear t1 t2 hk hk2
      rcases h3 with j1 | ⟨j1, j2⟩ | ⟨j1, j2⟩
      · have j1' : ((k : Int) == (es.length : Int)) = true := by simp; omega
        clear j1
        go_wp2_with (go_at_call 10; refine (HRR.out _ _ HB.out).mono ?_; rintro r w2 ⟨b1, k1, d1, l, z, rfl, hI, ho, hb2⟩; refine Hid.out ?_)
        refine Nu.hid ?_
        have hB2 : Below W.heap.size W w2 := HB.out.trans (hb2.mono HB.out.size)
        obtain ⟨x0, x1, x2, x3, x4, x5⟩ := HBOX.out _ hB2
        have hs2 := hB2.size
        have HI := Nu.hid hI
        have HO := Nu.hid ho
        have HB2 := Nu.hid hB2
        clear hI ho hb2 hB2
        go_wp2_with (go_at_call 11; refine (HPR.out _ _ HB2.out).mono ?_; rintro r w3 ⟨e1, m1, t1, l', z', rfl, hI', ho', hb3⟩; refine Hid.out ?_)
        refine Nu.hid ?_
        obtain ⟨q1, q2⟩ := hI'.unique HI.out
        subst q1 q2
        have hB3 : Below W.heap.size W w3 := HB2.out.trans (hb3.mono HB2.out.size)
        have hs3 := hB3.size
        have HSM := Nu.hid (same_own _ _ _ _ _ w3 ho' (HO.out.later hb3) (by have := HI.out.small; omega))
        have HB3 := Nu.hid hB3
        have hz := HI.out.code
        clear hI' ho' hb3 hB3 HO HI
        rcases hz with rfl | rfl | rfl | rfl
        · go_wp2_with (go_at_call 12; refine HSM.out.mono ?_; rintro r w4 ⟨rfl, hb4⟩; have HB4 := Nu.hid (HB3.out.trans (hb4.mono HB3.out.size)); clear hb4)
          go_roundw
          case rel => exact ⟨k + 1, by have := HT.out; omega, by have := HT.out; omega, by have := HT.out; go_num, HB4.out⟩
          case measure => have := HT.out; simp [intOf]; omega
        · go_wp2_with (go_at_call 12; refine HSM.out.mono ?_; rintro r w4 ⟨rfl, hb4⟩; have HB4 := Nu.hid (HB3.out.trans (hb4.mono HB3.out.size)); clear hb4)
          go_ret
          exact ⟨rfl, HB0.out.trans (HB4.out.mono HB0.out.size)⟩
        · go_wp2_with (go_at_call 12; refine HSM.out.mono ?_; rintro r w4 ⟨rfl, hb4⟩; have HB4 := Nu.hid (HB3.out.trans (hb4.mono HB3.out.size)); clear hb4)
          go_roundw
          case rel => exact ⟨k + 1, by have := HT.out; omega, by have := HT.out; omega, by have := HT.out; go_num, HB4.out⟩
          case measure => have := HT.out; simp [intOf]; omega
        · go_wp2_with (go_at_call 12; refine HSM.out.mono ?_; rintro r w4 ⟨rfl, hb4⟩; have HB4 := Nu.hid (HB3.out.trans (hb4.mono HB3.out.size)); clear hb4)
          go_ret
          exact ⟨rfl, HB0.out.trans (HB4.out.mono HB0.out.size)⟩
      · have j1' : ((k : Int) == (es.length : Int)) = false := by simp; omega
        have j2' : ((k : Int) == 200) = true := by simp; omega
        clear j1 j2
        go_wp2_with (go_at_call 10; refine (HRR.out _ _ HB.out).mono ?_; rintro r w2 ⟨b1, k1, d1, l, z, rfl, hI, ho, hb2⟩; refine Hid.out ?_)
        refine Nu.hid ?_
        have hB2 : Below W.heap.size W w2 := HB.out.trans (hb2.mono HB.out.size)
        obtain ⟨x0, x1, x2, x3, x4, x5⟩ := HBOX.out _ hB2
        have hs2 := hB2.size
        have HI := Nu.hid hI
        have HO := Nu.hid ho
        have HB2 := Nu.hid hB2
        clear hI ho hb2 hB2
        go_wp2_with (go_at_call 11; refine (HPR.out _ _ HB2.out).mono ?_; rintro r w3 ⟨e1, m1, t1, l', z', rfl, hI', ho', hb3⟩; refine Hid.out ?_)
        refine Nu.hid ?_
        obtain ⟨q1, q2⟩ := hI'.unique HI.out
        subst q1 q2
        have hB3 : Below W.heap.size W w3 := HB2.out.trans (hb3.mono HB2.out.size)
        have hs3 := hB3.size
        have HSM := Nu.hid (same_own _ _ _ _ _ w3 ho' (HO.out.later hb3) (by have := HI.out.small; omega))
        have HB3 := Nu.hid hB3
        have hz := HI.out.code
        clear hI' ho' hb3 hB3 HO HI
        rcases hz with rfl | rfl | rfl | rfl
        · go_wp2_with (go_at_call 12; refine HSM.out.mono ?_; rintro r w4 ⟨rfl, hb4⟩; have HB4 := Nu.hid (HB3.out.trans (hb4.mono HB3.out.size)); clear hb4)
          go_roundw
          case rel => exact ⟨k + 1, by have := HT.out; omega, by have := HT.out; omega, by have := HT.out; go_num, HB4.out⟩
          case measure => have := HT.out; simp [intOf]; omega
        · go_wp2_with (go_at_call 12; refine HSM.out.mono ?_; rintro r w4 ⟨rfl, hb4⟩; have HB4 := Nu.hid (HB3.out.trans (hb4.mono HB3.out.size)); clear hb4)
          go_ret
          exact ⟨rfl, HB0.out.trans (HB4.out.mono HB0.out.size)⟩
        · go_wp2_with (go_at_call 12; refine HSM.out.mono ?_; rintro r w4 ⟨rfl, hb4⟩; have HB4 := Nu.hid (HB3.out.trans (hb4.mono HB3.out.size)); clear hb4)
          go_roundw
          case rel => exact ⟨k + 1, by have := HT.out; omega, by have := HT.out; omega, by have := HT.out; go_num, HB4.out⟩
          case measure => have := HT.out; simp [intOf]; omega
        · go_wp2_with (go_at_call 12; refine HSM.out.mono ?_; rintro r w4 ⟨rfl, hb4⟩; have HB4 := Nu.hid (HB3.out.trans (hb4.mono HB3.out.size)); clear hb4)
          go_ret
          exact ⟨rfl, HB0.out.trans (HB4.out.mono HB0.out.size)⟩
      · have j1' : ((k : Int) == (es.length : Int)) = false := by simp; omega
        have j2' : ((k : Int) == 200) = false := by simp; omega
        clear j1 j2
        go_wp2_with (go_at_call 10; refine (HRR.out _ _ HB.out).mono ?_; rintro r w2 ⟨b1, k1, d1, l, z, rfl, hI, ho, hb2⟩; refine Hid.out ?_)
        refine Nu.hid ?_
        have hB2 : Below W.heap.size W w2 := HB.out.trans (hb2.mono HB.out.size)
        obtain ⟨x0, x1, x2, x3, x4, x5⟩ := HBOX.out _ hB2
        have hs2 := hB2.size
        have HI := Nu.hid hI
        have HO := Nu.hid ho
        have HB2 := Nu.hid hB2
        clear hI ho hb2 hB2
        go_wp2_with (go_at_call 11; refine (HPR.out _ _ HB2.out).mono ?_; rintro r w3 ⟨e1, m1, t1, l', z', rfl, hI', ho', hb3⟩; refine Hid.out ?_)
        refine Nu.hid ?_
        obtain ⟨q1, q2⟩ := hI'.unique HI.out
        subst q1 q2
        have hB3 : Below W.heap.size W w3 := HB2.out.trans (hb3.mono HB2.out.size)
        have hs3 := hB3.size
        have HSM := Nu.hid (same_own _ _ _ _ _ w3 ho' (HO.out.later hb3) (by have := HI.out.small; omega))
        have HB3 := Nu.hid hB3
        have hz := HI.out.code
        clear hI' ho' hb3 hB3 HO HI
        rcases hz with rfl | rfl | rfl | rfl
        · go_wp2_with (go_at_call 12; refine HSM.out.mono ?_; rintro r w4 ⟨rfl, hb4⟩; have HB4 := Nu.hid (HB3.out.trans (hb4.mono HB3.out.size)); clear hb4)
          go_roundw
          case rel => exact ⟨k + 1, by have := HT.out; omega, by have := HT.out; omega, by have := HT.out; go_num, HB4.out⟩
          case measure => have := HT.out; simp [intOf]; omega
        · go_wp2_with (go_at_call 12; refine HSM.out.mono ?_; rintro r w4 ⟨rfl, hb4⟩; have HB4 := Nu.hid (HB3.out.trans (hb4.mono HB3.out.size)); clear hb4)
          go_ret
          exact ⟨rfl, HB0.out.trans (HB4.out.mono HB0.out.size)⟩
        · go_wp2_with (go_at_call 12; refine HSM.out.mono ?_; rintro r w4 ⟨rfl, hb4⟩; have HB4 := Nu.hid (HB3.out.trans (hb4.mono HB3.out.size)); clear hb4)
          go_roundw
          case rel => exact ⟨k + 1, by have := HT.out; omega, by have := HT.out; omega, by have := HT.out; go_num, HB4.out⟩
          case measure => have := HT.out; simp [intOf]; omega
        · go_wp2_with (go_at_call 12; refine HSM.out.mono ?_; rintro r w4 ⟨rfl, hb4⟩; have HB4 := Nu.hid (HB3.out.trans (hb4.mono HB3.out.size)); clear hb4)
          go_ret
          exact ⟨rfl, HB0.out.trans (HB4.out.mono HB0.out.size)⟩
    · have h2 : (¬ (k : Int) ≤ (es.length : Int)) ∨ ((k : Int) ≤ (es.length : Int) ∧ ¬ (k : Int) ≤ 200) := by omega
      clear hc hk hk2
      rcases h2 with j1 | ⟨j1, j2⟩
      · go_wp2
        go_ret
        exact ⟨rfl, HB0.out.trans (HB.out.mono HB0.out.size)⟩
      · go_wp2
        go_ret
        exact ⟨rfl, HB0.out.trans (HB.out.mono HB0.out.size)⟩

set_option maxRecDepth 100000 in
/-- What the walk gives, for every argument and every world. -/
theorem contract (H : Type) (enc : TypeId × Value → H) (W : World) (base : Nat) (args : Array Value) (ds gs : List (DataW H)) (before : List MemPlace)
    (hval : ∀ (j : Nat) t v, Tryz.f4.params[j]? = some t → args[j]? = some v → Value.okWide Tryz.prog W .any base t v)
    (hW : DataW.Whole enc Tryz.prog Tryz.f4.params.toList Rows.lowReturnsSpec.vars false W args.toList ds gs before)
    (hsz : (DataW.weightsEach Tryz.prog (Tryz.f4.params.toList ++ (OpenSpec.ofChange Rows.lowReturnsSpec).bare.plain.varTypes Tryz.prog) (ds ++ gs)).all (· ≤ reachBytes) = true)
    :
    Calls Tryz.prog 4 args W fun e W' => ∃ v, e = .returned v ∧ Rows.lowReturnsSpec.post enc Tryz.prog Tryz.f4 false true false false W args v W' := by
  have hW' := hW
  obtain ⟨p, q, hA0, hV, rfl, hfz, hnd⟩ := hW
  have hA : DataW.TrodAll enc Tryz.prog W 0 (fun _ => true) true Tryz.f4.params.toList args.toList ds p := hA0
  rw [Tryz.params4] at hA hval hsz
  obtain ⟨v0, vs0, d0, ds0, p0, q0, hargs, rfl, rfl, h0, r0⟩ := trodAll_cons hA
  obtain ⟨v1, vs1, d1, ds1, p1, q1, rfl, rfl, rfl, h1, r1⟩ := trodAll_cons r0
  obtain ⟨v2, vs2, d2, ds2, p2, q2, rfl, rfl, rfl, h2, r2⟩ := trodAll_cons r1
  obtain ⟨rfl, rfl, rfl⟩ := trodAll_nil r2
  obtain rfl : args = #[v0, v1, v2] := by cases args; simp_all
  obtain ⟨rfl, rfl⟩ := trodVars_none hV
  have k0 := h0
  have lt0 : ∀ x ∈ p0, x.block < W.heap.size := by obtain ⟨m, hm⟩ := k0; exact DataW.trod_lt m _ _ _ hm
  obtain ⟨n0, a0, cap0, q0, rfl, x0, w0, u0⟩ := graph_of_trod (j := 0) (hval 0 24 v0 rfl rfl) h0 hsz rfl rfl
  have k1 := h1
  have lt1 : ∀ x ∈ p1, x.block < W.heap.size := by obtain ⟨m, hm⟩ := k1; exact DataW.trod_lt m _ _ _ hm
  obtain ⟨f1, s1, rfl, w1, u1⟩ := forest_room (j := 1) (hval 1 27 v1 rfl rfl) h1 hsz rfl rfl
  obtain ⟨a2, rfl, rfl, rfl, w2⟩ := open_int Tryz.underlying3 (hval 2 3 v2 rfl rfl) h2
  clear hA0
  refine (walk n0 a0 cap0 q0 f1 s1 a2 W x0 w0 u0 w1 u1 w2).mono fun e W' ⟨he, bel⟩ => ?_
  subst he
  exact ⟨_, rfl, _, _, _, [], _, [], hW', trodAll_mk1 (shut_bool Tryz.underlying4 _), (trodAll_cons_mk (Below.trod laidOut (by kernel_rfl) (of_decide_eq_true (by kernel_rfl)) k0 bel lt0) (trodAll_cons_mk (Below.trod laidOut (by kernel_rfl) (of_decide_eq_true (by kernel_rfl)) k1 bel lt1) (trodAll_cons_mk (shut_int Tryz.underlying3 w2) trodAll_mk0))), rfl, bel.frame _, fun h => by cases h⟩

theorem laid_met (os : Os) : laidMet Tryz.prog Rows.lowReturnsRow.laid ((settled os).forCall (fun _ _ => 0) ⟨#[], #[.agg #[.int .i64 0, .slice none 0 0], .agg #[.slice none 0 0, .slice none 0 0, .slice none 0 0, .slice none 0 0], .int .i64 0], []⟩).memory :=
  laidMet_of_run' 100 (by kernel_rfl) (by kernel_rfl)
theorem reads (os : Os) {H : Type} (enc : TypeId × Value → H) : ∃ places, DataW.whole enc Tryz.prog ((settled os).forCall (fun _ _ => 0) ⟨#[], #[.agg #[.int .i64 0, .slice none 0 0], .agg #[.slice none 0 0, .slice none 0 0, .slice none 0 0, .slice none 0 0], .int .i64 0], []⟩).memory Tryz.f4.params.toList Rows.lowReturnsSpec.vars false (#[.agg #[.int .i64 0, .slice none 0 0], .agg #[.slice none 0 0, .slice none 0 0, .slice none 0 0, .slice none 0 0], .int .i64 0] : Array Value).toList 8 = some ([.agg [.lit (.int .i64 0), .nil], .agg [.nil, .nil, .nil, .nil], .lit (.int .i64 0)], [], places) :=
  ⟨[], by kernel_rfl⟩

set_option maxRecDepth 100000 in
theorem lifted (os : Os) (started : os.Started) (H : Type) (enc : TypeId × Value → H) (F : Stop.Interp) :
    ReturnsInHanded {} Tryz.checked os 4 .any ((OpenSpec.ofChange Rows.lowReturnsSpec).preRow enc Tryz.prog Tryz.f4 Rows.lowReturnsRow.domain false Rows.lowReturnsRow.laid) (((OpenSpec.ofChange Rows.lowReturnsSpec).at F).post enc Tryz.prog Tryz.f4 false true false false) := by
  obtain ⟨places, hx⟩ := reads os enc
  refine returnsInHanded_of_row (C := Tryz.checked) (s := (OpenSpec.ofChange Rows.lowReturnsSpec)) own started (by kernel_rfl) Tryz.func4
    (witness_row_at (enc := enc) (C := Tryz.checked) false (settled os) #[.agg #[.int .i64 0, .slice none 0 0], .agg #[.slice none 0 0, .slice none 0 0, .slice none 0 0, .slice none 0 0], .int .i64 0] rfl (by kernel_rfl) (by kernel_rfl) (by kernel_rfl)
      (OpenSpec.preRow_of_cond 8 hx (by kernel_rfl) (fun k hk => by cases hk) (by kernel_rfl) (laid_met os))) ?_
  intro W base args ds gs before hval hW _ _ hsz _ _ _
  exact contract H enc W base args ds gs before hval hW hsz 

theorem said : Rows.LowReturnsSaid :=
  OpenClaim.holds_of_cond 4 Tryz.f4 rfl rfl rfl rfl rfl rfl rfl ⟨rfl, rfl, rfl, rfl, rfl⟩ rfl rfl rfl rfl rfl (by kernel_rfl) Tryz.func4 (by kernel_rfl)
    (of_decide_eq_true (by kernel_rfl)) (by unfold Func.isWrapper; first | (rw [if_pos (by decide +kernel)]; kernel_rfl) | (rw [if_neg (by decide +kernel)]; exact ⟨rfl, rfl⟩))
    (fun os started H enc _ F => by rw [OpenClaim.pre_eq_preRow]; exact lifted os started H enc F)

end lawLRet

theorem lowReturns_holds : Rows.LowReturnsSaid := lawLRet.said

#print axioms lowReturns_holds
end Go.Proofs.YtmgoahbloppdmaaGreat
