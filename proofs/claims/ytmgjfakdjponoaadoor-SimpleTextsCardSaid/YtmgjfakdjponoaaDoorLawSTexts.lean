/-
  Proved: for every graph the law SimpleTexts answers true, and the graph reads afterwards as before.
-/
import Derived.Test.YtmgjfakdjponoaaDoorSiOpen
import Derived.Test.YtmgjfakdjponoaaDoorSiWakes
import Derived.Test.YtmgjfakdjponoaaDoorSiREq
import Derived.Test.YtmgjfakdjponoaaDoorSiRText
namespace Go.Proofs.YtmgjfakdjponoaaDoor
open Go.ChangeShapes Go.WideShapes Go.ChangeAt Go.RowKit

namespace lawSTexts

set_option maxRecDepth 100000 in
set_option maxHeartbeats 8000000 in
theorem walk (n : Int) (ao : Option Addr) (ca : Nat) (es : List (Int × Int)) (w : World) (_ : -9223372036854775808 ≤ n ∧ n ≤ 9223372036854775807) (hq : PairsIn w ao es.length ca es) (hle : es.length * 16 ≤ 140737488351232) (ht : Tab w) :
    Calls Tryd.prog 7 #[.agg #[.int .i64 n, .slice ao es.length ca]] w fun e w' => e = .returned (.bool true) ∧ Below w.heap.size w w' := by
  have HQ := Nu.hid hq
  have HTAB := Nu.hid ht
  clear hq ht
  have hbw0 : Below w.heap.size w (w.alloc (.cells #[.int .i64 n, .slice ao es.length ca] 26)) := (Below.refl _ _).alloc (Nat.le_refl _) _
  have HBW0 := Nu.hid hbw0
  clear hbw0
  go_enter Tryd.func7, Tryd.ntmps7
  go_wp2_with (go_at_call 9; refine (wakes_any _ (HTAB.out.below HBW0.out)).mono ?_; rintro e w1 ⟨rfl, hb⟩; refine Hid.out ?_)
  refine Nu.hid ?_
  have hG := (hb.block _ (by simp)).trans (heap_alloc_new w (.cells #[.int .i64 n, .slice ao es.length ca] 26))
  obtain ⟨a0, a1, -⟩ := pair_cells hG
  have hs1 := lt_of_block hG
  have HB1 := Nu.hid (HBW0.out.trans (hb.mono HBW0.out.size))
  have HG := Nu.hid hG
  clear hb hG
  have hrt := rtext_any n ao ca es w1 (HQ.out.hat.later HB1.out) (by omega) (HTAB.out.below HB1.out)
  have hpt := fun (a : Option Addr) (c : Nat) (W : World) (h : EdgesAt W a es) (h' : Tab W) => text_any n a c es W h (by omega) h'
  unfold textVal at hrt hpt
  generalize Si.text n es = r at hrt hpt
  obtain ⟨bs, cc⟩ := r
  unfold graphVal at hrt hpt
  dsimp only at hrt hpt
  generalize (ByteArray.mk bs.toArray) = sb at hrt hpt
  have HRT := Nu.hid hrt
  have HPT := Nu.hid hpt
  clear hrt hpt
  go_wp2_with (go_at_call 26; refine HRT.out.mono ?_; rintro e w2 ⟨rfl, hb⟩; refine Hid.out ?_)
  refine Nu.hid ?_
  have HB2 := Nu.hid (HB1.out.trans (hb.mono HB1.out.size))
  obtain ⟨x0, x1, -⟩ := pair_cells ((hb.block _ hs1).trans HG.out)
  have hz1 : w.heap.size < w2.heap.size := by have := hb.size; omega
  clear hb a0 a1
  go_wp2_with (go_at_call 15; refine (rcopy_any n ao ca es _ (HQ.out.hat.later HB2.out) (by omega)).mono ?_; rintro e w3 ⟨v3, rfl, hown, hb⟩; obtain ⟨a3, c3, rfl, _, _, hea, _⟩ := hown.form; refine Hid.out ?_)
  refine Nu.hid ?_
  have HEA := Nu.hid hea
  have HB3 := Nu.hid (HB2.out.trans (hb.mono HB2.out.size))
  clear hb hown hea
  go_wp2_with (go_at_call 27; refine (HPT.out a3 c3 _ HEA.out (HTAB.out.below HB3.out)).mono ?_; rintro e w4 ⟨rfl, hb⟩; refine Hid.out ?_)
  refine Nu.hid ?_
  have HB4 := Nu.hid (HB3.out.trans (hb.mono HB3.out.size))
  clear hb
  go_wp2
  go_ret
  exact ⟨by simp, HB4.out⟩

set_option maxRecDepth 100000 in
/-- What the walk gives, for every argument and every world that holds the tables. -/
theorem contract (H : Type) (enc : TypeId × Value → H) (W : World) (base : Nat) (args : Array Value) (ds gs : List (DataW H)) (before : List MemPlace)
    (hval : ∀ (j : Nat) t v, Tryd.f7.params[j]? = some t → args[j]? = some v → Value.okWide Tryd.prog W .any base t v)
    (hW : DataW.Whole enc Tryd.prog Tryd.f7.params.toList Rows.simpleTextsSpec.vars false W args.toList ds gs before)
    (hsz : (DataW.weightsEach Tryd.prog (Tryd.f7.params.toList ++ (OpenSpec.ofChange Rows.simpleTextsSpec).bare.plain.varTypes Tryd.prog) (ds ++ gs)).all (· ≤ reachBytes) = true)
    (hL : laidMet Tryd.prog listed W) :
    Calls Tryd.prog 7 args W fun e W' => ∃ v, e = .returned v ∧ Rows.simpleTextsSpec.post enc Tryd.prog Tryd.f7 false true false false W args v W' := by
  have hW' := hW
  obtain ⟨p, q, hA0, hV, rfl, hfz, hnd⟩ := hW
  have hA : DataW.TrodAll enc Tryd.prog W 0 (fun _ => true) true Tryd.f7.params.toList args.toList ds p := hA0
  rw [Tryd.params7] at hA hval hsz
  obtain ⟨v0, vs0, d0, ds0, p0, q0, hargs, rfl, rfl, h0, r0⟩ := trodAll_cons hA
  obtain ⟨rfl, rfl, rfl⟩ := trodAll_nil r0
  obtain rfl : args = #[v0] := by cases args; simp_all
  obtain ⟨rfl, rfl⟩ := trodVars_none hV
  have k0 := h0
  have lt0 : ∀ x ∈ p0, x.block < W.heap.size := by obtain ⟨m, hm⟩ := k0; exact DataW.trod_lt m _ _ _ hm
  obtain ⟨n0, a0, cap0, q0, rfl, x0, w0, u0⟩ := graph_of_trod (j := 0) (hval 0 26 v0 rfl rfl) h0 hsz rfl rfl
  clear hA0
  refine (walk n0 a0 cap0 q0 W x0 w0 u0 (table hL)).mono fun e W' ⟨he, bel⟩ => ?_
  subst he
  exact ⟨_, rfl, _, _, _, [], _, [], hW', trodAll_mk1 (shut_bool Tryd.underlying4 _), (trodAll_cons_mk (Below.trod laidOut (by kernel_rfl) (of_decide_eq_true (by kernel_rfl)) k0 bel lt0) trodAll_mk0), rfl, bel.frame _, fun h => by cases h⟩

theorem laid_met (os : Os) : laidMet Tryd.prog Rows.simpleTextsRow.laid ((laidWorld os).forCall (fun _ _ => 0) ⟨#[], #[.agg #[.int .i64 0, .slice none 0 0]], []⟩).memory :=
  laidMet_of_run' 100 (by kernel_rfl) (by kernel_rfl)
theorem reads (os : Os) {H : Type} (enc : TypeId × Value → H) : ∃ places, DataW.whole enc Tryd.prog ((laidWorld os).forCall (fun _ _ => 0) ⟨#[], #[.agg #[.int .i64 0, .slice none 0 0]], []⟩).memory Tryd.f7.params.toList Rows.simpleTextsSpec.vars false (#[.agg #[.int .i64 0, .slice none 0 0]] : Array Value).toList 8 = some ([.agg [.lit (.int .i64 0), .nil]], [], places) :=
  ⟨[], by kernel_rfl⟩

set_option maxRecDepth 100000 in
theorem lifted (os : Os) (started : os.Started) (H : Type) (enc : TypeId × Value → H) (F : Stop.Interp) :
    ReturnsInHanded {} Tryd.checked os 7 .any ((OpenSpec.ofChange Rows.simpleTextsSpec).preRow enc Tryd.prog Tryd.f7 Rows.simpleTextsRow.domain false Rows.simpleTextsRow.laid) (((OpenSpec.ofChange Rows.simpleTextsSpec).at F).post enc Tryd.prog Tryd.f7 false true false false) := by
  obtain ⟨places, hx⟩ := reads os enc
  refine returnsInHanded_of_row (C := Tryd.checked) (s := (OpenSpec.ofChange Rows.simpleTextsSpec)) own started (by kernel_rfl) Tryd.func7
    (witness_row_at (enc := enc) (C := Tryd.checked) false (laidWorld os) #[.agg #[.int .i64 0, .slice none 0 0]] rfl (by kernel_rfl) (by kernel_rfl) (by kernel_rfl)
      (OpenSpec.preRow_of_cond 8 hx (by kernel_rfl) (fun k hk => by cases hk) (by kernel_rfl) (laid_met os))) ?_
  intro W base args ds gs before hval hW _ hcond hsz hL _ _
  exact contract H enc W base args ds gs before hval hW hsz hL

theorem said : Rows.SimpleTextsSaid :=
  OpenClaim.holds_of_cond 7 Tryd.f7 rfl rfl rfl rfl rfl rfl rfl ⟨rfl, rfl, rfl, rfl, rfl⟩ rfl rfl rfl rfl rfl (by kernel_rfl) Tryd.func7 (by kernel_rfl)
    (of_decide_eq_true (by kernel_rfl)) (by unfold Func.isWrapper; first | (rw [if_pos (by decide +kernel)]; kernel_rfl) | (rw [if_neg (by decide +kernel)]; exact ⟨rfl, rfl⟩))
    (fun os started H enc _ F => by rw [OpenClaim.pre_eq_preRow]; exact lifted os started H enc F)

theorem plain (f : FuncId) (fn : Func) (hf : Tryd.pinned.checked.prog.funcNamed "tangram/tangramlaw03.SimpleTexts" = some f) (hfn : Tryd.pinned.checked.prog.funcs[f]? = some fn) :
    true = Tryd.pinned.checked.prog.looks [] ∧ ∀ (j : Nat) t, fn.params[j]? = some t → Tryd.pinned.checked.prog.wantsStandIn t = false := by
  obtain rfl : f = 7 := Option.some.inj ((show Tryd.prog.funcNamed "tangram/tangramlaw03.SimpleTexts" = some 7 by kernel_rfl).symm.trans hf) |>.symm
  obtain rfl : fn = Tryd.f7 := (Option.some.inj (Tryd.func7.symm.trans hfn)).symm
  refine ⟨by kernel_rfl, fun j t ht => ?_⟩
  rw [Tryd.params7] at ht
  obtain rfl : t = 26 := by simpa using Array.mem_of_getElem? ht
  exact (show Tryd.prog.wantsStandIn 26 = false by kernel_rfl)

theorem card : Rows.SimpleTextsCardSaid :=
  Claim7.holds_tied_plain_at .later [] _ _ _ _ said (fun _ h => by cases h) (by kernel_rfl) (fun _ h => by cases h) simpleTexts_row_tie rfl ⟨rfl, rfl⟩ (by kernel_rfl) rfl plain (by kernel_rfl)

end lawSTexts

theorem simpleTexts_holds : Rows.SimpleTextsCardSaid := lawSTexts.card

end Go.Proofs.YtmgjfakdjponoaaDoor
