/-
  Proved: for every graph the law CompsOf answers true, and the graph reads afterwards as before. No condition.
-/
import Derived.Test.YtoaaihbeehpgfaaCoFixed
import Derived.Test.YtoaaihbeehpgfaaCoROf
import Derived.Test.YtoaaihbeehpgfaaCoRIso
import Derived.Test.YtoaaihbeehpgfaaSiGin
namespace Go.Proofs.Ytoaaihbeehpgfaa
open Go.ChangeShapes Go.WideShapes Go.ChangeAt Go.RowKit
namespace lawOf

/-- Of or the document's Of, of a graph that is valid. -/
theorem of_yes {f : FuncId} {args : Array Value} {m : Nat} {es : List (Int × Int)} {W : World} (hv : Si.Val m es) (h : Calls Try.prog f args W (OfPost m es W)) :
    Calls Try.prog f args W fun e w' => ∃ ao c, e = .returned (.tuple #[.slice ao m c, .int .i64 (Co.cnt m (Co.ofG m es) : Int), .int .i64 0]) ∧ OwnZ w' W.heap.size (.slice ao m c) (Co.ints m (Co.num (Co.ofG m es))) ∧ Below W.heap.size W w' := h.mono (by
  rintro e w' ⟨⟨m', v, h1, h2, h3, h4⟩ | ⟨h1, _⟩, hb⟩
  · obtain rfl : m = m' := by omega
    obtain ⟨ao, c, hv, -, -⟩ := h4.form
    rw [Co.ints_length] at hv
    subst hv
    exact ⟨ao, c, h3, h4, hb⟩
  · rw [Si.valid_iff.2 hv] at h1
    cases h1)

theorem of_no {f : FuncId} {args : Array Value} {n : Int} {es : List (Int × Int)} {W : World} (hv : Si.valid n es = false) (h : Calls Try.prog f args W (OfPost n es W)) :
    Calls Try.prog f args W fun e w' => e = .returned (.tuple #[.slice none 0 0, .int .i64 0, .int .i64 1]) ∧ Below W.heap.size W w' := h.mono (by
  rintro e w' ⟨⟨m', v, h1, h2, h3, h4⟩ | ⟨_, h1⟩, hb⟩
  · rw [Si.valid_iff.2 h2] at hv
    cases hv
  · exact ⟨h1, hb⟩)

theorem iso_yes {f : FuncId} {args : Array Value} {m : Nat} {es : List (Int × Int)} {W : World} (hv : Si.Val m es) (h : Calls Try.prog f args W (IsoPost m es W)) :
    Calls Try.prog f args W fun e w' => e = .returned (.tuple #[.int .i64 (Co.iso m es : Int), .int .i64 0]) ∧ Below W.heap.size W w' := h.mono (by
  rintro e w' ⟨⟨m', h1, h2, h3⟩ | ⟨h1, _⟩, hb⟩
  · obtain rfl : m = m' := by omega
    exact ⟨h3, hb⟩
  · rw [Si.valid_iff.2 hv] at h1
    cases h1)

theorem iso_no {f : FuncId} {args : Array Value} {n : Int} {es : List (Int × Int)} {W : World} (hv : Si.valid n es = false) (h : Calls Try.prog f args W (IsoPost n es W)) :
    Calls Try.prog f args W fun e w' => e = .returned (.tuple #[.int .i64 0, .int .i64 1]) ∧ Below W.heap.size W w' := h.mono (by
  rintro e w' ⟨⟨m', h1, h2, h3⟩ | ⟨_, h1⟩, hb⟩
  · rw [Si.valid_iff.2 h2] at hv
    cases hv
  · exact ⟨h1, hb⟩)

set_option maxRecDepth 100000 in
set_option maxHeartbeats 16000000 in
theorem walk (n : Int) (ao : Option Addr) (ca : Nat) (es : List (Int × Int)) (w : World) (_ : -9223372036854775808 ≤ n ∧ n ≤ 9223372036854775807) (hq : PairsIn w ao es.length ca es) (hle : es.length * 16 ≤ 140737488351232) :
    Calls Try.prog 6 #[.agg #[.int .i64 n, .slice ao es.length ca]] w fun e w' => e = .returned (.bool true) ∧ Below w.heap.size w w' := by
  have h1 := fun W (hb : Below w.heap.size w W) => of_any n ao ca es W (hq.hat.later hb) (by omega)
  have h2 := fun W (hb : Below w.heap.size w W) => rof_any n ao ca es W (hq.hat.later hb) (by omega)
  have h3 := fun W (hb : Below w.heap.size w W) => isolated_any n ao ca es W (hq.hat.later hb) (by omega)
  have h4 := fun W (hb : Below w.heap.size w W) => risolated_any n ao ca es W (hq.hat.later hb) (by omega)
  unfold graphVal at h1 h2 h3 h4
  have hb0 : Below w.heap.size w (w.alloc (.cells #[.int .i64 n, .slice ao es.length ca] 49)) := (Below.refl _ _).alloc (Nat.le_refl _) _
  have HB0 := Nu.hid hb0
  clear hb0 hq
  cases hv : Si.valid n es with
  | false =>
    have H1 := Nu.hid (fun W hb => of_no hv (h1 W hb))
    have H2 := Nu.hid (fun W hb => of_no hv (h2 W hb))
    have H3 := Nu.hid (fun W hb => iso_no hv (h3 W hb))
    have H4 := Nu.hid (fun W hb => iso_no hv (h4 W hb))
    have hsi : ∀ W, Calls Try.prog 25 #[.slice none 0 0, .slice none 0 0] W fun e w' => e = .returned (.bool true) ∧ Below W.heap.size W w' := fun W => (sameints_any none none 0 0 0 0 [] [] W rfl rfl (IntsAt.nil _ _) (IntsAt.nil _ _) (by omega)).mono (by
      rintro e w' ⟨h1, h2⟩
      exact ⟨by rw [h1]; rfl, h2⟩)
    have HSI := Nu.hid hsi
    clear h1 h2 h3 h4 hv hsi
    go_enter Try.func6, Try.ntmps6
    go_wp2_with (go_at_call 10; refine (fixed_any _).mono ?_; rintro e w1 ⟨rfl, hb⟩; refine Hid.out ?_)
    refine Nu.hid ?_
    have hG1 : w1.heap[w.heap.size]? = some (.cells #[.int .i64 n, .slice ao es.length ca] 49 (0, 0)) := (hb.block _ (by simp)).trans (heap_alloc_new w _)
    have HB1 := Nu.hid (HB0.out.trans (hb.mono HB0.out.size))
    have HG1 := Nu.hid hG1
    have hs1 := lt_of_block hG1
    obtain ⟨x0, x1, -⟩ := pair_cells hG1
    clear hb hG1
    go_wp2_with (go_at_call 21; refine (H1.out _ HB1.out).mono ?_; rintro e w2 ⟨rfl, hb⟩; refine Hid.out ?_)
    refine Nu.hid ?_
    have hG2 := (hb.block _ hs1).trans HG1.out
    have HB2 := Nu.hid (HB1.out.trans (hb.mono HB1.out.size))
    have HG2 := Nu.hid hG2
    have hs2 := lt_of_block hG2
    clear x0 x1
    obtain ⟨x0, x1, -⟩ := pair_cells hG2
    clear hb hG2 HG1 HB1
    go_wp2_with (go_at_call 22; refine (H2.out _ HB2.out).mono ?_; rintro e w3 ⟨rfl, hb⟩; refine Hid.out ?_)
    refine Nu.hid ?_
    have hG3 := (hb.block _ hs2).trans HG2.out
    have HB3 := Nu.hid (HB2.out.trans (hb.mono HB2.out.size))
    have HG3 := Nu.hid hG3
    have hs3 := lt_of_block hG3
    clear x0 x1
    obtain ⟨x0, x1, -⟩ := pair_cells hG3
    clear hb hG3 HG2 HB2
    go_wp2_with (go_at_call 23; refine (H3.out _ HB3.out).mono ?_; rintro e w4 ⟨rfl, hb⟩; refine Hid.out ?_)
    refine Nu.hid ?_
    have hG4 := (hb.block _ hs3).trans HG3.out
    have HB4 := Nu.hid (HB3.out.trans (hb.mono HB3.out.size))
    clear x0 x1
    obtain ⟨x0, x1, -⟩ := pair_cells hG4
    clear hb hG4 HG3 HB3
    go_wp2_with (go_at_call 24; refine (H4.out _ HB4.out).mono ?_; rintro e w5 ⟨rfl, hb⟩; refine Hid.out ?_)
    refine Nu.hid ?_
    have HB5 := Nu.hid (HB4.out.trans (hb.mono HB4.out.size))
    clear x0 x1 hb
    go_wp2_with (go_at_call 25; refine (HSI.out _).mono ?_; rintro e w6 ⟨rfl, hb⟩; have HB6 := Nu.hid (HB5.out.trans (hb.mono HB5.out.size)); clear hb)
    go_ret
    exact ⟨rfl, HB6.out⟩
  | true =>
    have hval := Si.valid_iff.1 hv
    have hhi := hval.hi
    obtain ⟨m, rfl⟩ : ∃ m : Nat, n = (m : Int) := ⟨n.toNat, by have := hval.lo; omega⟩
    have H1 := Nu.hid (fun W hb => of_yes hval (h1 W hb))
    have H2 := Nu.hid (fun W hb => of_yes hval (h2 W hb))
    have H3 := Nu.hid (fun W hb => iso_yes hval (h3 W hb))
    have H4 := Nu.hid (fun W hb => iso_yes hval (h4 W hb))
    obtain ⟨c, hc⟩ : ∃ c, Co.cnt m (Co.ofG m es) = c := ⟨_, rfl⟩
    obtain ⟨i, hi⟩ : ∃ i, Co.iso m es = i := ⟨_, rfl⟩
    rw [hc] at H1 H2
    rw [hi] at H3 H4
    clear h1 h2 h3 h4 hv hval hc hi
    go_enter Try.func6, Try.ntmps6
    go_wp2_with (go_at_call 10; refine (fixed_any _).mono ?_; rintro e w1 ⟨rfl, hb⟩; refine Hid.out ?_)
    refine Nu.hid ?_
    have hG1 : w1.heap[w.heap.size]? = some (.cells #[.int .i64 m, .slice ao es.length ca] 49 (0, 0)) := (hb.block _ (by simp)).trans (heap_alloc_new w _)
    have HB1 := Nu.hid (HB0.out.trans (hb.mono HB0.out.size))
    have HG1 := Nu.hid hG1
    have hs1 := lt_of_block hG1
    obtain ⟨x0, x1, -⟩ := pair_cells hG1
    clear hb hG1
    go_wp2_with (go_at_call 21; refine (H1.out _ HB1.out).mono ?_; rintro e w2 ⟨a2, c2, rfl, ho, hb⟩; have HO2 := Nu.hid ho; clear ho; refine Hid.out ?_)
    refine Nu.hid ?_
    have hG2 := (hb.block _ hs1).trans HG1.out
    have HB2 := Nu.hid (HB1.out.trans (hb.mono HB1.out.size))
    have HG2 := Nu.hid hG2
    have hs2 := lt_of_block hG2
    clear x0 x1
    obtain ⟨x0, x1, -⟩ := pair_cells hG2
    clear hb hG2 HG1 HB1
    go_wp2_with (go_at_call 22; refine (H2.out _ HB2.out).mono ?_; rintro e w3 ⟨a3, c3, rfl, ho, hb⟩; have HO3 := Nu.hid ho; have HBB3 := Nu.hid hb; clear ho; refine Hid.out ?_)
    refine Nu.hid ?_
    have hG3 := (hb.block _ hs2).trans HG2.out
    have HB3 := Nu.hid (HB2.out.trans (hb.mono HB2.out.size))
    have HG3 := Nu.hid hG3
    have hs3 := lt_of_block hG3
    clear x0 x1
    obtain ⟨x0, x1, -⟩ := pair_cells hG3
    clear hb hG3 HG2 HB2
    go_wp2_with (go_at_call 23; refine (H3.out _ HB3.out).mono ?_; rintro e w4 ⟨rfl, hb⟩; have HBB4 := Nu.hid hb; refine Hid.out ?_)
    refine Nu.hid ?_
    have hG4 := (hb.block _ hs3).trans HG3.out
    have HB4 := Nu.hid (HB3.out.trans (hb.mono HB3.out.size))
    clear x0 x1
    obtain ⟨x0, x1, -⟩ := pair_cells hG4
    clear hb hG4 HG3 HB3
    go_wp2_with (go_at_call 24; refine (H4.out _ HB4.out).mono ?_; rintro e w5 ⟨rfl, hb⟩; have HBB5 := Nu.hid hb; refine Hid.out ?_)
    refine Nu.hid ?_
    have HB5 := Nu.hid (HB4.out.trans (hb.mono HB4.out.size))
    have hsi : Calls Try.prog 25 #[.slice a2 m c2, .slice a3 m c3] w5 fun e w' => e = .returned (.bool true) ∧ Below w5.heap.size w5 w' := by
      obtain ⟨a2', c2', e2, k2, -⟩ := HO2.out.form
      obtain ⟨a3', c3', e3, k3, -⟩ := HO3.out.form
      rw [Co.ints_length] at e2 e3
      cases e2
      cases e3
      refine (sameints_any a2 a3 c2 c3 m m _ _ w5 (Co.ints_length _ _) (Co.ints_length _ _) (((k2.later HBB3.out).later HBB4.out).later HBB5.out) ((k3.later HBB4.out).later HBB5.out) (by omega)).mono ?_
      rintro e w' ⟨h1, h2⟩
      exact ⟨by rw [h1]; simp, h2⟩
    have HSI := Nu.hid hsi
    clear x0 x1 hb hsi
    go_wp2_with (go_at_call 25; refine HSI.out.mono ?_; rintro e w6 ⟨rfl, hb⟩; have HB6 := Nu.hid (HB5.out.trans (hb.mono HB5.out.size)); clear hb)
    go_ret
    exact ⟨by simp, HB6.out⟩

set_option maxRecDepth 100000 in
/-- What the walk gives, for every argument and every world. -/
theorem contract (H : Type) (enc : TypeId × Value → H) (W : World) (base : Nat) (args : Array Value) (ds gs : List (DataW H)) (before : List MemPlace)
    (hval : ∀ (j : Nat) t v, Try.f6.params[j]? = some t → args[j]? = some v → Value.okWide Try.prog W .any base t v)
    (hW : DataW.Whole enc Try.prog Try.f6.params.toList Rows.compsOfSpec.vars false W args.toList ds gs before)
    (hsz : (DataW.weightsEach Try.prog (Try.f6.params.toList ++ (OpenSpec.ofChange Rows.compsOfSpec).bare.plain.varTypes Try.prog) (ds ++ gs)).all (· ≤ reachBytes) = true)
    :
    Calls Try.prog 6 args W fun e W' => ∃ v, e = .returned v ∧ Rows.compsOfSpec.post enc Try.prog Try.f6 false true false false W args v W' := by
  have hW' := hW
  obtain ⟨p, q, hA0, hV, rfl, hfz, hnd⟩ := hW
  have hA : DataW.TrodAll enc Try.prog W 0 (fun _ => true) true Try.f6.params.toList args.toList ds p := hA0
  rw [Try.params6] at hA hval hsz
  obtain ⟨v0, vs0, d0, ds0, p0, q0, hargs, rfl, rfl, h0, r0⟩ := trodAll_cons hA
  obtain ⟨rfl, rfl, rfl⟩ := trodAll_nil r0
  obtain rfl : args = #[v0] := by cases args; simp_all
  obtain ⟨rfl, rfl⟩ := trodVars_none hV
  have k0 := h0
  have lt0 : ∀ x ∈ p0, x.block < W.heap.size := by obtain ⟨m, hm⟩ := k0; exact DataW.trod_lt m _ _ _ hm
  obtain ⟨n0, a0, cap0, q0, rfl, x0, w0, u0⟩ := graph_of_trod (j := 0) (hval 0 49 v0 rfl rfl) h0 hsz rfl rfl
  clear hA0
  refine (walk n0 a0 cap0 q0 W x0 w0 u0).mono fun e W' ⟨he, bel⟩ => ?_
  subst he
  exact ⟨_, rfl, _, _, _, [], _, [], hW', trodAll_mk1 (shut_bool Try.underlying4 _), (trodAll_cons_mk (Below.trod laidOut (by kernel_rfl) (of_decide_eq_true (by kernel_rfl)) k0 bel lt0) trodAll_mk0), rfl, bel.frame _, fun h => by cases h⟩

theorem laid_met (os : Os) : laidMet Try.prog Rows.compsOfRow.laid ((settled os).forCall (fun _ _ => 0) ⟨#[], #[.agg #[.int .i64 0, .slice none 0 0]], []⟩).memory :=
  laidMet_of_run' 100 (by kernel_rfl) (by kernel_rfl)
theorem reads (os : Os) {H : Type} (enc : TypeId × Value → H) : ∃ places, DataW.whole enc Try.prog ((settled os).forCall (fun _ _ => 0) ⟨#[], #[.agg #[.int .i64 0, .slice none 0 0]], []⟩).memory Try.f6.params.toList Rows.compsOfSpec.vars false (#[.agg #[.int .i64 0, .slice none 0 0]] : Array Value).toList 8 = some ([.agg [.lit (.int .i64 0), .nil]], [], places) :=
  ⟨[], by kernel_rfl⟩

set_option maxRecDepth 100000 in
theorem lifted (os : Os) (started : os.Started) (H : Type) (enc : TypeId × Value → H) (F : Stop.Interp) :
    ReturnsInHanded {} Try.checked os 6 .any ((OpenSpec.ofChange Rows.compsOfSpec).preRow enc Try.prog Try.f6 Rows.compsOfRow.domain false Rows.compsOfRow.laid) (((OpenSpec.ofChange Rows.compsOfSpec).at F).post enc Try.prog Try.f6 false true false false) := by
  obtain ⟨places, hx⟩ := reads os enc
  refine returnsInHanded_of_row (C := Try.checked) (s := (OpenSpec.ofChange Rows.compsOfSpec)) own started (by kernel_rfl) Try.func6
    (witness_row_at (enc := enc) (C := Try.checked) false (settled os) #[.agg #[.int .i64 0, .slice none 0 0]] rfl (by kernel_rfl) (by kernel_rfl) (by kernel_rfl)
      (OpenSpec.preRow_of_cond 8 hx (by kernel_rfl) (fun k hk => by cases hk) (by kernel_rfl) (laid_met os))) ?_
  intro W base args ds gs before hval hW _ _ hsz _ _ _
  exact contract H enc W base args ds gs before hval hW hsz 

theorem said : Rows.CompsOfSaid :=
  OpenClaim.holds_of_cond 6 Try.f6 rfl rfl rfl rfl rfl rfl rfl ⟨rfl, rfl, rfl, rfl, rfl⟩ rfl rfl rfl rfl rfl (by kernel_rfl) Try.func6 (by kernel_rfl)
    (of_decide_eq_true (by kernel_rfl)) (by unfold Func.isWrapper; first | (rw [if_pos (by decide +kernel)]; kernel_rfl) | (rw [if_neg (by decide +kernel)]; exact ⟨rfl, rfl⟩))
    (fun os started H enc _ F => by rw [OpenClaim.pre_eq_preRow]; exact lifted os started H enc F)

end lawOf

theorem compsOf_holds : Rows.CompsOfSaid := lawOf.said

#print axioms compsOf_holds
end Go.Proofs.Ytoaaihbeehpgfaa
