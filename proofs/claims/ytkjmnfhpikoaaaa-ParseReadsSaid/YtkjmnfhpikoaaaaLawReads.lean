/-
  Proved: for every list of bytes the law ParseReads answers true, and the bytes read afterwards as before.
-/
import Derived.Test.YtkjmnfhpikoaaaaKin
import Derived.Test.YtkjmnfhpikoaaaaPaOut
namespace Go.Proofs.Ytkjmnfhpikoaaaa
open Go.ChangeShapes Go.WideShapes Go.ChangeAt Go.RowKit

theorem PairsAt.drew {w : World} {v : Value} {ps : List (Int × Int)} (h : PairsAt w v ps) : PairsAt w.drew v ps := h
theorem IntsAt.drew {w : World} {v : Value} {zs : List Int} (h : IntsAt w v zs) : IntsAt w.drew v zs := h

namespace lawReads

set_option maxRecDepth 100000 in
set_option maxHeartbeats 4000000 in
theorem walk (a0 : Option Addr) (len0 cap0 : Nat) (z0 : List Int) (w : World) (w0 : IsRow .u8 1 w a0 len0 cap0 z0) :
    Calls Try.prog 3 #[.slice a0 len0 cap0] w fun e w' => e = .returned (.bool true) ∧ Below w.heap.size w w' := by
  obtain ⟨i0, hi, hz0, hz1, hz2⟩ := info_parts Try.infoU8
  have hlen : len0 ≤ 140737488351232 := by simpa using w0.small
  have htk := w0.take
  have htx := w0.text
  have HROW := Nu.hid w0
  have HTX := Nu.hid htx
  have HTK := Nu.hid htk
  clear w0 htx htk
  go_enter Try.func3, Try.ntmps3
  go_wp2_with (go_at_call 6; refine (fixed_any _).mono ?_; refine Hid.out ?_)
  refine Nu.hid ?_
  rintro e w1 ⟨rfl, hb1⟩
  have HROW1 := Nu.hid (HROW.out.later hb1)
  have HB1 := Nu.hid hb1
  clear hb1
  go_wp2_with (at_builtin; refine wpList_copy rfl _ _ 22 rfl 5 .u8 i0 1 Try.underlying22 hi hz0 hz1 hz2 (by decide) w1 a0 len0 cap0 z0 rfl rfl HROW1.out ?_; refine Hid.out ?_)
  refine Nu.hid ?_
  intro gb c w2 hown hgb hlt hlc hb2
  rw [← List.map_take] at hown
  have HT2 := Nu.hid (own_text HTK.out (fun i hi => (HTX.out i hi).1) hown)
  have HB2 := Nu.hid (HB1.out.trans (hb2.mono HB1.out.size))
  clear hown hb2
  go_wp2_with (go_at_call 7; refine (raw_any _ len0 c _ _ HT2.out (by intro x hx; cases hx; exact hlt) (by unfold maxLen; omega) hlc).mono ?_; refine Hid.out ?_)
  refine Nu.hid ?_
  rintro e w3 hpost
  obtain ⟨hb3, n, v, x, ps, rfl, hout, hop⟩ := hpost.outs
  have hfew := hout.few
  have HB3 := Nu.hid (HB2.out.trans (hb3.mono HB2.out.size))
  have HOUT := Nu.hid hout
  obtain ⟨va, vc, rfl, hvx⟩ := hop.at
  have HPA : Hid (PairsAt w3 (.slice va ps.length vc) ps) := ⟨va, vc, rfl, hvx⟩
  clear hpost hb3 hout hop hvx
  unfold rawVal rejVal
  have hw3 : w.heap.size ≤ w3.heap.size := HB3.out.size
  have hb3' : Below w.heap.size w ((w3.alloc (.cells #[.int .i64 n, .slice va ps.length vc] 26)).alloc (.cells #[.int .i64 x.1, .int .i64 x.2] 29)) := (HB3.out.alloc hw3 _).alloc (by simp; omega) _
  have HB3' := Nu.hid hb3'
  have HT3 := Nu.hid (HTX.out.later hb3')
  clear hb3'
  go_wp2_with (go_at_call 8; refine (refraw_any a0 len0 cap0 _ _ HT3.out (by unfold maxLen; omega)).mono ?_; refine Hid.out ?_)
  refine Nu.hid ?_
  rintro e w4 hpost
  obtain ⟨hb4, U, V, rfl, hu, hv⟩ := hpost.outs HOUT.out
  have HB4 := Nu.hid (HB3'.out.trans (hb4.mono HB3'.out.size))
  obtain ⟨k1, k2⟩ : w4.heap[w3.heap.size]? = some (.cells #[.int .i64 n, .slice va ps.length vc] 26 (0, 0)) ∧ w4.heap[w3.heap.size + 1]? = some (.cells #[.int .i64 x.1, .int .i64 x.2] 29 (0, 0)) := by
    refine ⟨?_, ?_⟩
    · rw [hb4.block _ (by simp; omega), Below.heap_alloc _ _ _ (by simp)]
      exact heap_alloc_new w3 _
    · rw [hb4.block _ (by simp)]
      have := heap_alloc_new (w3.alloc (.cells #[.int .i64 n, .slice va ps.length vc] 26)) (.cells #[.int .i64 x.1, .int .i64 x.2] 29)
      rwa [World.size_alloc] at this
  have hb34 : Below w3.heap.size w3 w4 := (((Below.refl _ _).alloc (Nat.le_refl _) _).alloc (by simp) _).trans (hb4.mono (by simp; omega))
  have PA4 := Nu.hid (HPA.out.below hb34 (Nat.le_refl _))
  obtain ⟨ua, uc, rfl, hux⟩ := hu.at
  obtain ⟨wa, wc, rfl, hwx⟩ := hv.at
  have UA4 : Hid (IntsAt w4 (.slice ua (ps.map Prod.fst).length uc) (ps.map Prod.fst)) := ⟨ua, uc, rfl, hux⟩
  have VA4 : Hid (IntsAt w4 (.slice wa (ps.map Prod.snd).length wc) (ps.map Prod.snd)) := ⟨wa, wc, rfl, hwx⟩
  rw [List.length_map] at UA4 VA4
  rw [List.length_map, List.length_map]
  clear hpost hb4 hu hv hux hwx hb34
  unfold toldVal
  have hw4 : w3.heap.size + 1 < w4.heap.size := lt_of_block k2
  have K1 := Nu.hid k1
  have K2 := Nu.hid k2
  clear k1 k2
  go_wp2_with fail
  generalize hW : w4.alloc (.cells #[.int .i64 n, .slice ua ps.length uc, .slice wa ps.length wc, .int .i64 x.1, .int .i64 x.2] 34) = W
  have hbW : Below w4.heap.size w4 W := by rw [← hW]; exact (Below.refl _ _).alloc (Nat.le_refl _) _
  have hsW : W.heap.size = w4.heap.size + 1 := by rw [← hW]; simp
  have b3 : W.heap[w4.heap.size]? = some (.cells #[.int .i64 n, .slice ua ps.length uc, .slice wa ps.length wc, .int .i64 x.1, .int .i64 x.2] 34 (0, 0)) := by rw [← hW]; exact heap_alloc_new w4 _
  have b1 := (hbW.block _ (lt_of_block K1.out)).trans K1.out
  have b2 := (hbW.block _ (lt_of_block K2.out)).trans K2.out
  obtain ⟨c10, c11, _⟩ := two_cells b1
  obtain ⟨c20, c21, _⟩ := two_cells b2
  obtain ⟨c30, c31, c32, c33, c34, _⟩ := five_cells b3
  have PAW := Nu.hid (PA4.out.below hbW (Nat.le_refl _))
  have UAW := Nu.hid (UA4.out.below hbW (Nat.le_refl _))
  have VAW := Nu.hid (VA4.out.below hbW (Nat.le_refl _))
  have HBW := Nu.hid (HB4.out.trans (hbW.mono HB4.out.size))
  have hwW : w.heap.size ≤ W.heap.size := HBW.out.size
  have qR : w3.heap.size < W.heap.size := by omega
  have qX : w3.heap.size + 1 < W.heap.size := by omega
  have qD : w4.heap.size < W.heap.size := by omega
  have HSW := Nu.hid hsW
  clear hW hbW b1 b2 b3 hsW
  go_region_held3 (fun w' => w'.cell? ⟨w3.heap.size, 0, none⟩ = some (.int .i64 n) ∧ w'.cell? ⟨w3.heap.size, 1, none⟩ = some (.slice va ps.length vc) ∧ w'.cell? ⟨w3.heap.size + 1, 0, none⟩ = some (.int .i64 x.1) ∧ w'.cell? ⟨w3.heap.size + 1, 1, none⟩ = some (.int .i64 x.2) ∧ w'.cell? ⟨w4.heap.size, 0, none⟩ = some (.int .i64 n) ∧ w'.cell? ⟨w4.heap.size, 1, none⟩ = some (.slice ua ps.length uc) ∧ w'.cell? ⟨w4.heap.size, 2, none⟩ = some (.slice wa ps.length wc) ∧ w'.cell? ⟨w4.heap.size, 3, none⟩ = some (.int .i64 x.1) ∧ w'.cell? ⟨w4.heap.size, 4, none⟩ = some (.int .i64 x.2))
    (first
      | go_keep
      | (go_split_ands
         refine ⟨?_, ?_, ?_, ?_, ?_, ?_, ?_, ?_, ?_⟩ <;> first
           | (refine (hbelC.cell (p := ⟨_, _, none⟩) ?_).trans ?_ <;> first | assumption | (simp; omega))
           | (refine (hbelB.cell (p := ⟨_, _, none⟩) ?_).trans ?_ <;> first | assumption | (simp; omega))
           | (refine (hbelA.cell (p := ⟨_, _, none⟩) ?_).trans ?_ <;> first | assumption | (simp; omega))))
    (first
      | (go_at_call 9; refine (psame_any n (.slice va ps.length vc) (.slice ua ps.length uc) (.slice wa ps.length wc) x ps _ PAW.out.drew UAW.out.drew VAW.out.drew (by omega)).mono ?_; rintro e w5 ⟨rfl, hbelA⟩; have hs5 : W.heap.size ≤ w5.heap.size := hbelA.size; have q5R : w3.heap.size < w5.heap.size := (by omega); have q5X : w3.heap.size + 1 < w5.heap.size := (by omega); have q5D : w4.heap.size < w5.heap.size := (by omega))
      | (rw [if_pos (by rfl)]; refine wp_grow _ _ 22 (by rfl) 5 .u8 i0 1 Try.underlying22 hi hz0 hz1 hz2 _ w5.heap.size 0 w5.heap.size 0 [] (World.ownsRow_made w5 #[] 0 (Nat.le_refl _) (Nat.zero_le _) rfl) (by simp) a0 len0 cap0 z0 (by rfl) (by rfl) (HROW.out.later ((HBW.out.drew.trans (hbelA.mono hwW)).alloc (by omega) _)) (by unfold maxLen; omega) (by omega) ?_; intro gb2 c2 w6 hown2 hgb2 hlt2 hlc2 hbelB; rw [Nat.zero_add, List.nil_append] at hown2; rw [Nat.zero_add] at hlc2; rw [Nat.zero_add])
      | (go_at_call 10; refine (accepts_any _ len0 c2 _ _ (own_text HTK.out (fun i hi => (HTX.out i hi).1) hown2) (by intro y hy; cases hy; exact hlt2) (by unfold maxLen; omega) hlc2).mono ?_; rw [HOUT.out.ok]; rintro e w7 ⟨rfl, hbelC⟩))
  go_wp2
  go_ret
  refine ⟨by simp, ?_⟩
  exact (((HBW.out.drew.trans (hbelA.mono hwW)).alloc (by omega) _).trans (hbelB.mono (by omega))).trans (hbelC.mono (by have := hbelB.size; simp at this; omega))

/-- What the walk gives, for every argument and every world. -/
theorem contract (H : Type) (enc : TypeId × Value → H) (W : World) (base : Nat) (args : Array Value) (ds gs : List (DataW H)) (before : List MemPlace)
    (hval : ∀ (j : Nat) t v, Try.f3.params[j]? = some t → args[j]? = some v → Value.okWide Try.prog W .any base t v)
    (hW : DataW.Whole enc Try.prog Try.f3.params.toList Rows.parseReadsSpec.vars false W args.toList ds gs before)
    (hsz : (DataW.weightsEach Try.prog (Try.f3.params.toList ++ (OpenSpec.ofChange Rows.parseReadsSpec).bare.plain.varTypes Try.prog) (ds ++ gs)).all (· ≤ reachBytes) = true)
    :
    Calls Try.prog 3 args W fun e W' => ∃ v, e = .returned v ∧ Rows.parseReadsSpec.post enc Try.prog Try.f3 false true false false W args v W' := by
  have hW' := hW
  obtain ⟨p, q, hA0, hV, rfl, hfz, hnd⟩ := hW
  have hA : DataW.TrodAll enc Try.prog W 0 (fun _ => true) true Try.f3.params.toList args.toList ds p := hA0
  rw [Try.params3] at hA hval hsz
  obtain ⟨v0, vs0, d0, ds0, p0, q0, hargs, rfl, rfl, h0, r0⟩ := trodAll_cons hA
  obtain ⟨rfl, rfl, rfl⟩ := trodAll_nil r0
  obtain rfl : args = #[v0] := by cases args; simp_all
  obtain ⟨rfl, rfl⟩ := trodVars_none hV
  obtain ⟨a0, len0, cap0, rfl⟩ := okWide_slice Try.underlying22 (hval 0 22 v0 rfl rfl)
  have k0 := h0
  have lt0 : ∀ x ∈ p0, x.block < W.heap.size := by obtain ⟨m, hm⟩ := k0; exact DataW.trod_lt m _ _ _ hm
  obtain ⟨z0, w0⟩ := IsRow.of_trod (j := 0) Try.underlying22 Try.underlying5 cellsU8 bytesU8 h0 hsz rfl rfl
  clear hA0
  refine (walk a0 len0 cap0 z0 W w0).mono fun e W' ⟨he, bel⟩ => ?_
  subst he
  exact ⟨_, rfl, _, _, _, [], _, [], hW', trodAll_mk1 (shut_bool Try.underlying4 _), (trodAll_cons_mk (Below.trod laidOut (by kernel_rfl) (of_decide_eq_true (by kernel_rfl)) k0 bel lt0) trodAll_mk0), rfl, bel.frame _, fun h => by cases h⟩

theorem laid_met (os : Os) : laidMet Try.prog Rows.parseReadsRow.laid ((settled os).forCall (fun _ _ => 0) ⟨#[], #[.slice none 0 0], []⟩).memory :=
  laidMet_of_run' 100 (by kernel_rfl) (by kernel_rfl)
theorem reads (os : Os) {H : Type} (enc : TypeId × Value → H) : ∃ places, DataW.whole enc Try.prog ((settled os).forCall (fun _ _ => 0) ⟨#[], #[.slice none 0 0], []⟩).memory Try.f3.params.toList Rows.parseReadsSpec.vars false (#[.slice none 0 0] : Array Value).toList 8 = some ([.nil], [], places) :=
  ⟨[], by kernel_rfl⟩

set_option maxRecDepth 100000 in
theorem lifted (os : Os) (started : os.Started) (H : Type) (enc : TypeId × Value → H) (F : Stop.Interp) :
    ReturnsInHanded {} Try.checked os 3 .any ((OpenSpec.ofChange Rows.parseReadsSpec).preRow enc Try.prog Try.f3 Rows.parseReadsRow.domain false Rows.parseReadsRow.laid) (((OpenSpec.ofChange Rows.parseReadsSpec).at F).post enc Try.prog Try.f3 false true false false) := by
  obtain ⟨places, hx⟩ := reads os enc
  refine returnsInHanded_of_row (C := Try.checked) (s := (OpenSpec.ofChange Rows.parseReadsSpec)) own started (by kernel_rfl) Try.func3
    (witness_row_at (enc := enc) (C := Try.checked) false (settled os) #[.slice none 0 0] rfl (by kernel_rfl) (by kernel_rfl) (by kernel_rfl)
      (OpenSpec.preRow_of_cond 8 hx (by kernel_rfl) (fun k hk => by cases hk) (by kernel_rfl) (laid_met os))) ?_
  intro W base args ds gs before hval hW _ _ hsz _ _ _
  exact contract H enc W base args ds gs before hval hW hsz 

theorem said : Rows.ParseReadsSaid :=
  OpenClaim.holds_of_cond 3 Try.f3 rfl rfl rfl rfl rfl rfl rfl ⟨rfl, rfl, rfl, rfl, rfl⟩ rfl rfl rfl rfl rfl (by kernel_rfl) Try.func3 (by kernel_rfl)
    (of_decide_eq_true (by kernel_rfl)) (by unfold Func.isWrapper; first | (rw [if_pos (by decide +kernel)]; kernel_rfl) | (rw [if_neg (by decide +kernel)]; exact ⟨rfl, rfl⟩))
    (fun os started H enc _ F => by rw [OpenClaim.pre_eq_preRow]; exact lifted os started H enc F)


end lawReads

theorem parseReads_holds : Rows.ParseReadsSaid := lawReads.said

#print axioms parseReads_holds
end Go.Proofs.Ytkjmnfhpikoaaaa
