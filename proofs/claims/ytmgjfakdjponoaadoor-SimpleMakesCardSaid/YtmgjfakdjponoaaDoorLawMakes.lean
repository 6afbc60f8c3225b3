/-
  Proved: for every number and every list of pairs the law SimpleMakes answers true, and the list reads afterwards as before.
-/
import Derived.Test.YtmgjfakdjponoaaDoorSiOpen
import Derived.Test.YtmgjfakdjponoaaDoorSiWakes
import Derived.Test.YtmgjfakdjponoaaDoorSiRMake
import Derived.Test.YtmgjfakdjponoaaDoorSiREq
import Derived.Test.YtmgjfakdjponoaaDoorSiPairs
namespace Go.Proofs.YtmgjfakdjponoaaDoor
open Go.ChangeShapes Go.WideShapes Go.ChangeAt Go.RowKit

namespace lawMakes

set_option maxRecDepth 100000 in
set_option maxHeartbeats 8000000 in
theorem walk (n : Int) (ao : Option Addr) (cap : Nat) (ps : List (Int × Int)) (w : World) (_ : (Lit.int .i64 n).wf = true) (hq : PairsIn w ao ps.length cap ps) (hlen : ps.length * 16 ≤ 140737488351232) (ht : Tab w) :
    Calls Tryd.prog 3 #[.int .i64 n, .slice ao ps.length cap] w fun e w' => e = .returned (.bool true) ∧ Below w.heap.size w w' := by
  have HQ := Nu.hid hq
  have HTAB := Nu.hid ht
  clear hq ht
  go_enter Tryd.func3, Tryd.ntmps3
  go_wp2_with (go_at_call 9; refine (wakes_any _ HTAB.out).mono ?_; rintro e w1 ⟨rfl, hb1⟩; refine Hid.out ?_)
  refine Nu.hid ?_
  have HB1 := Nu.hid hb1
  clear hb1
  go_wp2_with (go_at_call 10; refine (rmake_any n ao cap ps _ (HQ.out.hat.later HB1.out) (by omega)).mono ?_; refine Hid.out ?_)
  refine Nu.hid ?_
  rintro e w2 ⟨ra, rc, rfl, hea2, hb2⟩
  have hmk : ∀ (g c : Nat) (W : World), EdgesAt W (some ⟨g, 0, none⟩) ps → Calls Tryd.prog 11 #[.int .i64 n, .slice (some ⟨g, 0, none⟩) ps.length c] W (MakeP (Si.mk n ps) W) := fun g c W h => make_any n (some ⟨g, 0, none⟩) c ps W h (by omega)
  have hml : (Si.mk n ps).2.1.length ≤ 4611686018427387904 := by
    unfold Si.mk
    split
    · simp
    · split
      · simp
      · dsimp only; omega
  generalize Si.mk n ps = r at hea2 hmk hml ⊢
  obtain ⟨rn, rl, re⟩ := r
  dsimp only at hea2 hml ⊢
  have HEA2 := Nu.hid hea2
  have HMK := Nu.hid hmk
  have HBW2 := Nu.hid (HB1.out.trans (hb2.mono HB1.out.size))
  have hbA : Below w2.heap.size w2 (w2.alloc (.cells #[.int .i64 rn, .slice ra rl.length rc] 26)) := (Below.refl _ _).alloc (Nat.le_refl _) _
  have HBA := Nu.hid hbA
  have HBWA := Nu.hid (HBW2.out.trans (hbA.mono HBW2.out.size))
  clear hea2 hmk hb2 hbA
  go_wp2_with (go_at_call 12; refine (copied_any ao cap ps _ (HQ.out.hat.later HBWA.out) HQ.out.hnil (by omega)).mono ?_; refine Hid.out ?_)
  refine Nu.hid ?_
  rintro e w3 ⟨g, c, rfl, hown, hb3⟩
  obtain ⟨ao3, c3, e3, _, _, hea3, _⟩ := hown.form
  cases e3
  have HEA3 := Nu.hid hea3
  have HB3 := Nu.hid (HBA.out.trans (hb3.mono HBA.out.size))
  have hW3 : w3.heap[w2.heap.size]? = some (.cells #[.int .i64 rn, .slice ra rl.length rc] 26 (0, 0)) := (hb3.block _ (by simp)).trans (heap_alloc_new w2 _)
  have hs3 := lt_of_block hW3
  have HW3 := Nu.hid hW3
  clear hown hb3 hea3 hW3
  go_wp2_with (go_at_call 11; refine (HMK.out g c _ HEA3.out).mono ?_; refine Hid.out ?_)
  refine Nu.hid ?_
  rintro e w4 ⟨v, rfl, hown, hb4⟩
  dsimp only at hown ⊢
  obtain ⟨ao4, c4, rfl, _, _, hea4, _⟩ := hown.form
  have HEA4 := Nu.hid hea4
  have hW4 := (hb4.block _ hs3).trans HW3.out
  have hs4 := lt_of_block hW4
  obtain ⟨a0, a1, -⟩ := pair_cells hW4
  have HB4 := Nu.hid (HB3.out.trans (hb4.mono HB3.out.size))
  have hbB : Below w4.heap.size w4 (w4.alloc (.cells #[.int .i64 rn, .slice ao4 rl.length c4] 26)) := (Below.refl _ _).alloc (Nat.le_refl _) _
  have HB5 := Nu.hid (HB4.out.trans (hbB.mono HB4.out.size))
  have hequ := equal_any rn rn ao4 ra c4 rc rl rl _ (HEA4.out.later hbB) (HEA2.out.later HB5.out) hml
  rw [Si.equal_yes rfl rfl] at hequ
  unfold graphVal at hequ
  have HEQ := Nu.hid hequ
  clear hown hb4 hea4 hW4 hbB hequ hml
  go_wp2_with (go_at_call 13; refine HEQ.out.mono ?_; rintro e w5 ⟨rfl, hb5⟩)
  go_ret
  exact ⟨by simp, HBW2.out.trans ((HB5.out.trans (hb5.mono HB5.out.size)).mono HBW2.out.size)⟩

set_option maxRecDepth 100000 in
/-- What the walk gives, for every argument and every world that holds the tables. -/
theorem contract (H : Type) (enc : TypeId × Value → H) (W : World) (base : Nat) (args : Array Value) (ds gs : List (DataW H)) (before : List MemPlace)
    (hval : ∀ (j : Nat) t v, Tryd.f3.params[j]? = some t → args[j]? = some v → Value.okWide Tryd.prog W .any base t v)
    (hW : DataW.Whole enc Tryd.prog Tryd.f3.params.toList Rows.simpleMakesSpec.vars false W args.toList ds gs before)
    (hsz : (DataW.weightsEach Tryd.prog (Tryd.f3.params.toList ++ (OpenSpec.ofChange Rows.simpleMakesSpec).bare.plain.varTypes Tryd.prog) (ds ++ gs)).all (· ≤ reachBytes) = true)
    (hL : laidMet Tryd.prog listed W) :
    Calls Tryd.prog 3 args W fun e W' => ∃ v, e = .returned v ∧ Rows.simpleMakesSpec.post enc Tryd.prog Tryd.f3 false true false false W args v W' := by
  have hW' := hW
  obtain ⟨p, q, hA0, hV, rfl, hfz, hnd⟩ := hW
  have hA : DataW.TrodAll enc Tryd.prog W 0 (fun _ => true) true Tryd.f3.params.toList args.toList ds p := hA0
  rw [Tryd.params3] at hA hval hsz
  obtain ⟨v0, vs0, d0, ds0, p0, q0, hargs, rfl, rfl, h0, r0⟩ := trodAll_cons hA
  obtain ⟨v1, vs1, d1, ds1, p1, q1, rfl, rfl, rfl, h1, r1⟩ := trodAll_cons r0
  obtain ⟨rfl, rfl, rfl⟩ := trodAll_nil r1
  obtain rfl : args = #[v0, v1] := by cases args; simp_all
  obtain ⟨rfl, rfl⟩ := trodVars_none hV
  obtain ⟨a0, rfl, rfl, rfl, w0⟩ := open_int Tryd.underlying3 (hval 0 3 v0 rfl rfl) h0
  obtain ⟨a1, len1, cap1, rfl⟩ := okWide_slice Tryd.underlying22 (hval 1 22 v1 rfl rfl)
  have k1 := h1
  have lt1 : ∀ x ∈ p1, x.block < W.heap.size := by obtain ⟨m, hm⟩ := k1; exact DataW.trod_lt m _ _ _ hm
  obtain ⟨q1, w1, u1⟩ := pairs_of_trod (j := 1) h1 hsz rfl rfl
  have l1 := w1.hlen
  subst l1
  clear hA0
  refine (walk a0 a1 cap1 q1 W w0 w1 u1 (table hL)).mono fun e W' ⟨he, bel⟩ => ?_
  subst he
  exact ⟨_, rfl, _, _, _, [], _, [], hW', trodAll_mk1 (shut_bool Tryd.underlying4 _), (trodAll_cons_mk (shut_int Tryd.underlying3 w0) (trodAll_cons_mk (Below.trod laidOut (by kernel_rfl) (of_decide_eq_true (by kernel_rfl)) k1 bel lt1) trodAll_mk0)), rfl, bel.frame _, fun h => by cases h⟩

theorem laid_met (os : Os) : laidMet Tryd.prog Rows.simpleMakesRow.laid ((laidWorld os).forCall (fun _ _ => 0) ⟨#[], #[.int .i64 0, .slice none 0 0], []⟩).memory :=
  laidMet_of_run' 100 (by kernel_rfl) (by kernel_rfl)
theorem reads (os : Os) {H : Type} (enc : TypeId × Value → H) : ∃ places, DataW.whole enc Tryd.prog ((laidWorld os).forCall (fun _ _ => 0) ⟨#[], #[.int .i64 0, .slice none 0 0], []⟩).memory Tryd.f3.params.toList Rows.simpleMakesSpec.vars false (#[.int .i64 0, .slice none 0 0] : Array Value).toList 8 = some ([.lit (.int .i64 0), .nil], [], places) :=
  ⟨[], by kernel_rfl⟩

set_option maxRecDepth 100000 in
theorem lifted (os : Os) (started : os.Started) (H : Type) (enc : TypeId × Value → H) (F : Stop.Interp) :
    ReturnsInHanded {} Tryd.checked os 3 .any ((OpenSpec.ofChange Rows.simpleMakesSpec).preRow enc Tryd.prog Tryd.f3 Rows.simpleMakesRow.domain false Rows.simpleMakesRow.laid) (((OpenSpec.ofChange Rows.simpleMakesSpec).at F).post enc Tryd.prog Tryd.f3 false true false false) := by
  obtain ⟨places, hx⟩ := reads os enc
  refine returnsInHanded_of_row (C := Tryd.checked) (s := (OpenSpec.ofChange Rows.simpleMakesSpec)) own started (by kernel_rfl) Tryd.func3
    (witness_row_at (enc := enc) (C := Tryd.checked) false (laidWorld os) #[.int .i64 0, .slice none 0 0] rfl (by kernel_rfl) (by kernel_rfl) (by kernel_rfl)
      (OpenSpec.preRow_of_cond 8 hx (by kernel_rfl) (fun k hk => by cases hk) (by kernel_rfl) (laid_met os))) ?_
  intro W base args ds gs before hval hW _ hcond hsz hL _ _
  exact contract H enc W base args ds gs before hval hW hsz hL

theorem said : Rows.SimpleMakesSaid :=
  OpenClaim.holds_of_cond 3 Tryd.f3 rfl rfl rfl rfl rfl rfl rfl ⟨rfl, rfl, rfl, rfl, rfl⟩ rfl rfl rfl rfl rfl (by kernel_rfl) Tryd.func3 (by kernel_rfl)
    (of_decide_eq_true (by kernel_rfl)) (by unfold Func.isWrapper; first | (rw [if_pos (by decide +kernel)]; kernel_rfl) | (rw [if_neg (by decide +kernel)]; exact ⟨rfl, rfl⟩))
    (fun os started H enc _ F => by rw [OpenClaim.pre_eq_preRow]; exact lifted os started H enc F)

theorem plain (f : FuncId) (fn : Func) (hf : Tryd.pinned.checked.prog.funcNamed "tangram/tangramlaw03.SimpleMakes" = some f) (hfn : Tryd.pinned.checked.prog.funcs[f]? = some fn) :
    true = Tryd.pinned.checked.prog.looks [] ∧ ∀ (j : Nat) t, fn.params[j]? = some t → Tryd.pinned.checked.prog.wantsStandIn t = false := by
  obtain rfl : f = 3 := Option.some.inj ((show Tryd.prog.funcNamed "tangram/tangramlaw03.SimpleMakes" = some 3 by kernel_rfl).symm.trans hf) |>.symm
  obtain rfl : fn = Tryd.f3 := (Option.some.inj (Tryd.func3.symm.trans hfn)).symm
  refine ⟨by kernel_rfl, fun j t ht => ?_⟩
  rw [Tryd.params3] at ht
  obtain hx : t = 3 ∨ t = 22 := by simpa using Array.mem_of_getElem? ht
  rcases hx with rfl | rfl
  · exact (show Tryd.prog.wantsStandIn 3 = false by kernel_rfl)
  · exact (show Tryd.prog.wantsStandIn 22 = false by kernel_rfl)

theorem card : Rows.SimpleMakesCardSaid :=
  Claim7.holds_tied_plain_at .later [] _ _ _ _ said (fun _ h => by cases h) (by kernel_rfl) (fun _ h => by cases h) simpleMakes_row_tie rfl ⟨rfl, rfl⟩ (by kernel_rfl) rfl plain (by kernel_rfl)

end lawMakes

theorem simpleMakes_holds : Rows.SimpleMakesCardSaid := lawMakes.card

end Go.Proofs.YtmgjfakdjponoaaDoor
