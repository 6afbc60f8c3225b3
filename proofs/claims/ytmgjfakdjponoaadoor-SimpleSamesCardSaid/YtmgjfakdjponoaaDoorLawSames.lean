/-
  Proved: for every two graphs the law SimpleSames answers true, and both read afterwards as before.
-/
import Derived.Test.YtmgjfakdjponoaaDoorSiOpen
import Derived.Test.YtmgjfakdjponoaaDoorSiWakes
import Derived.Test.YtmgjfakdjponoaaDoorSiSame
namespace Go.Proofs.YtmgjfakdjponoaaDoor
open Go.ChangeShapes Go.WideShapes Go.ChangeAt Go.RowKit

namespace lawSames

set_option maxRecDepth 100000 in
set_option maxHeartbeats 16000000 in
theorem walk (n : Int) (ao : Option Addr) (ca : Nat) (es : List (Int × Int)) (m : Int) (bo : Option Addr) (cb : Nat) (fs : List (Int × Int)) (w : World) (_ : -9223372036854775808 ≤ n ∧ n ≤ 9223372036854775807) (hq : PairsIn w ao es.length ca es) (hle : es.length * 16 ≤ 140737488351232)
    (_ : -9223372036854775808 ≤ m ∧ m ≤ 9223372036854775807) (hr : PairsIn w bo fs.length cb fs) (hlf : fs.length * 16 ≤ 140737488351232) (ht : Tab w) :
    Calls Tryd.prog 6 #[.agg #[.int .i64 n, .slice ao es.length ca], .agg #[.int .i64 m, .slice bo fs.length cb]] w fun e w' => e = .returned (.bool true) ∧ Below w.heap.size w w' := by
  have HQ := Nu.hid hq
  have HR := Nu.hid hr
  have HTAB := Nu.hid ht
  clear hq hr ht
  have hbw0 : Below w.heap.size w ((w.alloc (.cells #[.int .i64 n, .slice ao es.length ca] 26)).alloc (.cells #[.int .i64 m, .slice bo fs.length cb] 26)) := ((Below.refl _ _).alloc (Nat.le_refl _) _).alloc (by simp) _
  have HBW0 := Nu.hid hbw0
  clear hbw0
  obtain ⟨ga, gb⟩ := two_graphs w (.cells #[.int .i64 n, .slice ao es.length ca] 26) (.cells #[.int .i64 m, .slice bo fs.length cb] 26)
  have HGA := Nu.hid ga
  have HGB := Nu.hid gb
  clear ga gb
  go_enter Tryd.func6, Tryd.ntmps6
  go_wp2_with (go_at_call 9; refine (wakes_any _ (HTAB.out.below HBW0.out)).mono ?_; rintro e w1 ⟨rfl, hb⟩; refine Hid.out ?_)
  refine Nu.hid ?_
  have hG1 := (hb.block _ (by simp; omega)).trans HGA.out
  have hG2 := (hb.block _ (by simp)).trans HGB.out
  obtain ⟨a0, a1, -⟩ := pair_cells hG1
  obtain ⟨b0, b1, -⟩ := pair_cells hG2
  have hs2 := lt_of_block hG2
  have hs1 := lt_of_block hG1
  have HB1 := Nu.hid (HBW0.out.trans (hb.mono HBW0.out.size))
  have HG1 := Nu.hid hG1
  have HG2 := Nu.hid hG2
  clear hb hG1 hG2
  have hrs := rsame_any n m ao bo ca cb es fs w1 (HQ.out.hat.later HB1.out) (HR.out.hat.later HB1.out) (by omega) (by omega)
  have hsc := Si.same_comm n m es fs
  have hsm : ∀ (x y : Int) (gs hs : List (Int × Int)) (a b : Option Addr) (c d : Nat) (r : Bool) (W : World), EdgesAt W a gs → EdgesAt W b hs → Si.same x y gs hs = r → gs.length ≤ 4611686018427387904 → hs.length ≤ 4611686018427387904 → Calls Tryd.prog 24 #[.agg #[.int .i64 x, .slice a gs.length c], .agg #[.int .i64 y, .slice b hs.length d]] W fun e w' => e = .returned (.bool r) ∧ Below W.heap.size W w' := fun x y gs hs a b c d r W h h' hr h2 h3 => by
    subst hr
    exact same_any x y a b c d gs hs W h h' h2 h3
  unfold graphVal at hrs
  generalize hs1 : Si.same n m es fs = s at hrs hsc
  have HRS := Nu.hid hrs
  have HSM := Nu.hid hsm
  have HS1 := Nu.hid hs1
  have HS2 := Nu.hid hsc
  clear hrs hsm hs1 hsc
  go_wp2_with (go_at_call 25; refine HRS.out.mono ?_; rintro e w2 ⟨rfl, hb⟩; refine Hid.out ?_)
  refine Nu.hid ?_
  have HB2 := Nu.hid (HB1.out.trans (hb.mono HB1.out.size))
  obtain ⟨x0, x1, -⟩ := pair_cells ((hb.block _ hs1).trans HG1.out)
  obtain ⟨y0, y1, -⟩ := pair_cells ((hb.block _ hs2).trans HG2.out)
  have hz1 : w.heap.size < w2.heap.size := by have := hb.size; omega
  have hz2 : w.heap.size + 1 < w2.heap.size := by have := hb.size; omega
  clear hb a0 a1 b0 b1
  have hbr : Below w2.heap.size w2 w2.drew := (Below.refl _ _).drew
  have hS : ∀ W, Below w2.heap.size w2 W → (W.cell? ⟨w.heap.size, 0, none⟩ = some (.int .i64 n) ∧ W.cell? ⟨w.heap.size, 1, none⟩ = some (.slice ao es.length ca) ∧ W.cell? ⟨w.heap.size + 1, 0, none⟩ = some (.int .i64 m) ∧ W.cell? ⟨w.heap.size + 1, 1, none⟩ = some (.slice bo fs.length cb) ∧ Below w2.heap.size w2 W) := fun W h =>
    ⟨(h.cell (p := ⟨w.heap.size, 0, none⟩) hz1).trans x0, (h.cell (p := ⟨w.heap.size, 1, none⟩) hz1).trans x1, (h.cell (p := ⟨w.heap.size + 1, 0, none⟩) hz2).trans y0, (h.cell (p := ⟨w.heap.size + 1, 1, none⟩) hz2).trans y1, h⟩
  have HS := Nu.hid hS
  have hcg : ∀ (x : Int) (gs : List (Int × Int)) (a : Option Addr) (c : Nat) (W : World), EdgesAt w a gs → gs.length * 16 ≤ 140737488351232 → Below w2.heap.size w2 W → Calls Tryd.prog 15 #[.agg #[.int .i64 x, .slice a gs.length c]] W fun e W2 => ∃ a c, e = .returned (.agg #[.int .i64 x, .slice a gs.length c]) ∧ EdgesAt W2 a gs ∧ Below W.heap.size W W2 ∧ Below w2.heap.size w2 W2 := fun x gs a c W he hl h => by
    refine (rcopy_any x a c gs W (he.later (HB2.out.trans (h.mono HB2.out.size))) (by omega)).mono ?_
    rintro e W2 ⟨v, rfl, hown, hb⟩
    obtain ⟨a, c, rfl, _, _, hea, _⟩ := hown.form
    exact ⟨a, c, rfl, hea, hb, h.trans (hb.mono h.size)⟩
  have HCG := Nu.hid hcg
  clear hcg hS
  go_wp2_with fail
  go_region_held3 (fun W => W.cell? ⟨w.heap.size, 0, none⟩ = some (.int .i64 n) ∧ W.cell? ⟨w.heap.size, 1, none⟩ = some (.slice ao es.length ca) ∧ W.cell? ⟨w.heap.size + 1, 0, none⟩ = some (.int .i64 m) ∧ W.cell? ⟨w.heap.size + 1, 1, none⟩ = some (.slice bo fs.length cb) ∧ Below w2.heap.size w2 W)
    (exact HS.out _ (by first | assumption | exact hbr))
    ((first
      | (go_at_call 15; refine (HCG.out _ _ _ _ _ (by first | exact HQ.out.hat | exact HR.out.hat) (by omega) (by first | assumption | exact hbr)).mono ?_; rintro e W2 ⟨aa, cc, rfl, hea, hbs, hbz⟩)
      | (go_at_call 24; refine (HSM.out _ _ _ _ _ _ _ _ _ _ (by first | assumption | exact EdgesAt.later (by assumption) (by assumption)) (by first | assumption | exact EdgesAt.later (by assumption) (by assumption)) (by first | exact HS1.out | exact HS2.out) (by omega) (by omega)).mono ?_; rintro e W2 ⟨rfl, hbs⟩; have hbz : Below w2.heap.size w2 W2 := Below.trans (by assumption) (hbs.mono (Below.size (by assumption))))))
  all_goals
    go_wp2
    go_ret
    exact ⟨by simp, HB2.out.trans (hbz.mono HB2.out.size)⟩

set_option maxRecDepth 100000 in
/-- What the walk gives, for every argument and every world that holds the tables. -/
theorem contract (H : Type) (enc : TypeId × Value → H) (W : World) (base : Nat) (args : Array Value) (ds gs : List (DataW H)) (before : List MemPlace)
    (hval : ∀ (j : Nat) t v, Tryd.f6.params[j]? = some t → args[j]? = some v → Value.okWide Tryd.prog W .any base t v)
    (hW : DataW.Whole enc Tryd.prog Tryd.f6.params.toList Rows.simpleSamesSpec.vars false W args.toList ds gs before)
    (hsz : (DataW.weightsEach Tryd.prog (Tryd.f6.params.toList ++ (OpenSpec.ofChange Rows.simpleSamesSpec).bare.plain.varTypes Tryd.prog) (ds ++ gs)).all (· ≤ reachBytes) = true)
    (hL : laidMet Tryd.prog listed W) :
    Calls Tryd.prog 6 args W fun e W' => ∃ v, e = .returned v ∧ Rows.simpleSamesSpec.post enc Tryd.prog Tryd.f6 false true false false W args v W' := by
  have hW' := hW
  obtain ⟨p, q, hA0, hV, rfl, hfz, hnd⟩ := hW
  have hA : DataW.TrodAll enc Tryd.prog W 0 (fun _ => true) true Tryd.f6.params.toList args.toList ds p := hA0
  rw [Tryd.params6] at hA hval hsz
  obtain ⟨v0, vs0, d0, ds0, p0, q0, hargs, rfl, rfl, h0, r0⟩ := trodAll_cons hA
  obtain ⟨v1, vs1, d1, ds1, p1, q1, rfl, rfl, rfl, h1, r1⟩ := trodAll_cons r0
  obtain ⟨rfl, rfl, rfl⟩ := trodAll_nil r1
  obtain rfl : args = #[v0, v1] := by cases args; simp_all
  obtain ⟨rfl, rfl⟩ := trodVars_none hV
  have k0 := h0
  have lt0 : ∀ x ∈ p0, x.block < W.heap.size := by obtain ⟨m, hm⟩ := k0; exact DataW.trod_lt m _ _ _ hm
  obtain ⟨n0, a0, cap0, q0, rfl, x0, w0, u0⟩ := graph_of_trod (j := 0) (hval 0 26 v0 rfl rfl) h0 hsz rfl rfl
  have k1 := h1
  have lt1 : ∀ x ∈ p1, x.block < W.heap.size := by obtain ⟨m, hm⟩ := k1; exact DataW.trod_lt m _ _ _ hm
  obtain ⟨n1, a1, cap1, q1, rfl, x1, w1, u1⟩ := graph_of_trod (j := 1) (hval 1 26 v1 rfl rfl) h1 hsz rfl rfl
  clear hA0
  refine (walk n0 a0 cap0 q0 n1 a1 cap1 q1 W x0 w0 u0 x1 w1 u1 (table hL)).mono fun e W' ⟨he, bel⟩ => ?_
  subst he
  exact ⟨_, rfl, _, _, _, [], _, [], hW', trodAll_mk1 (shut_bool Tryd.underlying4 _), (trodAll_cons_mk (Below.trod laidOut (by kernel_rfl) (of_decide_eq_true (by kernel_rfl)) k0 bel lt0) (trodAll_cons_mk (Below.trod laidOut (by kernel_rfl) (of_decide_eq_true (by kernel_rfl)) k1 bel lt1) trodAll_mk0)), rfl, bel.frame _, fun h => by cases h⟩

theorem laid_met (os : Os) : laidMet Tryd.prog Rows.simpleSamesRow.laid ((laidWorld os).forCall (fun _ _ => 0) ⟨#[], #[.agg #[.int .i64 0, .slice none 0 0], .agg #[.int .i64 0, .slice none 0 0]], []⟩).memory :=
  laidMet_of_run' 100 (by kernel_rfl) (by kernel_rfl)
theorem reads (os : Os) {H : Type} (enc : TypeId × Value → H) : ∃ places, DataW.whole enc Tryd.prog ((laidWorld os).forCall (fun _ _ => 0) ⟨#[], #[.agg #[.int .i64 0, .slice none 0 0], .agg #[.int .i64 0, .slice none 0 0]], []⟩).memory Tryd.f6.params.toList Rows.simpleSamesSpec.vars false (#[.agg #[.int .i64 0, .slice none 0 0], .agg #[.int .i64 0, .slice none 0 0]] : Array Value).toList 8 = some ([.agg [.lit (.int .i64 0), .nil], .agg [.lit (.int .i64 0), .nil]], [], places) :=
  ⟨[], by kernel_rfl⟩

set_option maxRecDepth 100000 in
theorem lifted (os : Os) (started : os.Started) (H : Type) (enc : TypeId × Value → H) (F : Stop.Interp) :
    ReturnsInHanded {} Tryd.checked os 6 .any ((OpenSpec.ofChange Rows.simpleSamesSpec).preRow enc Tryd.prog Tryd.f6 Rows.simpleSamesRow.domain false Rows.simpleSamesRow.laid) (((OpenSpec.ofChange Rows.simpleSamesSpec).at F).post enc Tryd.prog Tryd.f6 false true false false) := by
  obtain ⟨places, hx⟩ := reads os enc
  refine returnsInHanded_of_row (C := Tryd.checked) (s := (OpenSpec.ofChange Rows.simpleSamesSpec)) own started (by kernel_rfl) Tryd.func6
    (witness_row_at (enc := enc) (C := Tryd.checked) false (laidWorld os) #[.agg #[.int .i64 0, .slice none 0 0], .agg #[.int .i64 0, .slice none 0 0]] rfl (by kernel_rfl) (by kernel_rfl) (by kernel_rfl)
      (OpenSpec.preRow_of_cond 8 hx (by kernel_rfl) (fun k hk => by cases hk) (by kernel_rfl) (laid_met os))) ?_
  intro W base args ds gs before hval hW _ hcond hsz hL _ _
  exact contract H enc W base args ds gs before hval hW hsz hL

theorem said : Rows.SimpleSamesSaid :=
  OpenClaim.holds_of_cond 6 Tryd.f6 rfl rfl rfl rfl rfl rfl rfl ⟨rfl, rfl, rfl, rfl, rfl⟩ rfl rfl rfl rfl rfl (by kernel_rfl) Tryd.func6 (by kernel_rfl)
    (of_decide_eq_true (by kernel_rfl)) (by unfold Func.isWrapper; first | (rw [if_pos (by decide +kernel)]; kernel_rfl) | (rw [if_neg (by decide +kernel)]; exact ⟨rfl, rfl⟩))
    (fun os started H enc _ F => by rw [OpenClaim.pre_eq_preRow]; exact lifted os started H enc F)

theorem plain (f : FuncId) (fn : Func) (hf : Tryd.pinned.checked.prog.funcNamed "tangram/tangramlaw03.SimpleSames" = some f) (hfn : Tryd.pinned.checked.prog.funcs[f]? = some fn) :
    true = Tryd.pinned.checked.prog.looks [] ∧ ∀ (j : Nat) t, fn.params[j]? = some t → Tryd.pinned.checked.prog.wantsStandIn t = false := by
  obtain rfl : f = 6 := Option.some.inj ((show Tryd.prog.funcNamed "tangram/tangramlaw03.SimpleSames" = some 6 by kernel_rfl).symm.trans hf) |>.symm
  obtain rfl : fn = Tryd.f6 := (Option.some.inj (Tryd.func6.symm.trans hfn)).symm
  refine ⟨by kernel_rfl, fun j t ht => ?_⟩
  rw [Tryd.params6] at ht
  obtain rfl : t = 26 := by simpa using Array.mem_of_getElem? ht
  exact (show Tryd.prog.wantsStandIn 26 = false by kernel_rfl)

theorem card : Rows.SimpleSamesCardSaid :=
  Claim7.holds_tied_plain_at .later [] _ _ _ _ said (fun _ h => by cases h) (by kernel_rfl) (fun _ h => by cases h) simpleSames_row_tie rfl ⟨rfl, rfl⟩ (by kernel_rfl) rfl plain (by kernel_rfl)

end lawSames

theorem simpleSames_holds : Rows.SimpleSamesCardSaid := lawSames.card

end Go.Proofs.YtmgjfakdjponoaaDoor
