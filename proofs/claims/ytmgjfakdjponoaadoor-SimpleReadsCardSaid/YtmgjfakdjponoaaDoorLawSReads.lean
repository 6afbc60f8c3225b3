/-
  Proved: for every list of bytes the law SimpleReads answers true, and the bytes read afterwards as before.
-/
import Derived.Test.YtmgjfakdjponoaaDoorDoor
import Derived.Test.YtmgjfakdjponoaaDoorSiRead
import Derived.Test.YtmgjfakdjponoaaDoorSiWakes
import Derived.Test.YtmgjfakdjponoaaDoorSiRMake
import Derived.Test.YtmgjfakdjponoaaDoorSiREq
import Derived.Test.YtmgjfakdjponoaaDoorPaEq
namespace Go.Proofs.YtmgjfakdjponoaaDoor
open Go.ChangeShapes Go.WideShapes Go.ChangeAt Go.RowKit

namespace lawSReads

theorem boxes {w w' : World} {A B : Obj} (hb : Below ((w.alloc A).alloc B).heap.size ((w.alloc A).alloc B) w') : w'.heap[w.heap.size]? = some A ∧ w'.heap[w.heap.size + 1]? = some B ∧ Below w.heap.size w w' := by
  refine ⟨?_, ?_, ?_⟩
  · rw [hb.block _ (by simp; omega), Below.heap_alloc _ _ _ (by simp)]
    exact heap_alloc_new w _
  · rw [hb.block _ (by simp)]
    have := heap_alloc_new (w.alloc A) B
    simpa using this
  · exact (((Below.refl _ _).alloc (Nat.le_refl _) _).alloc (by simp) _).trans (hb.mono (by simp; omega))

theorem boxes' {w w' : World} {A B : Obj} (hb : Below (w.heap.size + 1 + 1) ((w.alloc A).alloc B) w') : w'.heap[w.heap.size]? = some A ∧ w'.heap[w.heap.size + 1]? = some B ∧ Below w.heap.size w w' := by
  have h : ((w.alloc A).alloc B).heap.size = w.heap.size + 1 + 1 := by simp
  refine boxes ?_
  rw [h]
  exact hb

theorem kept1 {w : World} {b : Nat} {o : Obj} (A : Obj) (h : w.heap[b]? = some o) : (w.alloc A).heap[b]? = some o := by
  rw [Below.heap_alloc _ _ _ (lt_of_block h)]
  exact h

set_option maxRecDepth 100000 in
set_option maxHeartbeats 8000000 in
theorem walk (a0 : Option Addr) (len0 cap0 : Nat) (z0 : List Int) (w : World) (w0 : IsRow .u8 1 w a0 len0 cap0 z0) (ht : Tab w) :
    Calls Tryd.prog 8 #[.slice a0 len0 cap0] w fun e w' => e = .returned (.bool true) ∧ Below w.heap.size w w' := by
  obtain ⟨i0, hi, hz0, hz1, hz2⟩ := info_parts Tryd.infoU8
  have hlen : len0 ≤ 140737488351232 := by simpa using w0.small
  have htk := w0.take
  have htx := w0.text
  have HROW := Nu.hid w0
  have HTX := Nu.hid htx
  have HTK := Nu.hid htk
  have HTAB := Nu.hid ht
  clear w0 htx htk ht
  go_enter Tryd.func8, Tryd.ntmps8
  go_wp2_with (go_at_call 9; refine (wakes_any _ HTAB.out).mono ?_; rintro e w1 ⟨rfl, hb1⟩; refine Hid.out ?_)
  refine Nu.hid ?_
  have HROW1 := Nu.hid (HROW.out.later hb1)
  have HB1 := Nu.hid hb1
  clear hb1
  go_wp2_with (at_builtin; refine wpList_copy rfl _ _ 53 rfl 5 .u8 i0 1 Tryd.underlying53 hi hz0 hz1 hz2 (by decide) w1 a0 len0 cap0 z0 rfl rfl HROW1.out ?_; refine Hid.out ?_)
  refine Nu.hid ?_
  intro gb c w2 hown hgb hlt hlc hb2
  rw [← List.map_take] at hown
  have HT2 := Nu.hid (own_text HTK.out (fun i hi => (HTX.out i hi).1) hown)
  have HB2 := Nu.hid (HB1.out.trans (hb2.mono HB1.out.size))
  clear hown hb2
  go_wp2_with (go_at_call 28; refine (raw_any _ len0 c _ _ HT2.out (by intro x hx; cases hx; exact hlt) (by unfold maxLen; omega) hlc).mono ?_; refine Hid.out ?_)
  refine Nu.hid ?_
  rintro e w3 ⟨hb3, hor⟩
  have HB3 := Nu.hid (HB2.out.trans (hb3.mono HB2.out.size))
  have hs3 : w.heap.size ≤ w3.heap.size := HB3.out.size
  clear hb3
  generalize hraw : Pa.raw (fun i => z0.getD i 0) len0 = rr at hor
  have HRAW := Nu.hid hraw
  clear hraw
  rcases hor with ⟨x, rfl, rfl⟩ | ⟨s, v, rfl, rfl, hop⟩
  · have hcx := Pa.raw_code HRAW.out
    have j0 : (x.1 != 0) = true := by simpa using hcx
    unfold rawVal rejVal
    have hbA : Below w.heap.size w ((w3.alloc (.cells #[.int .i64 0, .slice none 0 0] 55)).alloc (.cells #[.int .i64 x.1, .int .i64 x.2] 57)) := (HB3.out.alloc hs3 _).alloc (by simp; omega) _
    have HROW3 := Nu.hid (HROW.out.later hbA)
    clear hcx hbA
    go_wp2_with (at_builtin; refine wpList_copy rfl _ _ 53 rfl 5 .u8 i0 1 Tryd.underlying53 hi hz0 hz1 hz2 (by decide) _ a0 len0 cap0 z0 (by exact congrArg (fun k => Value.slice (some ⟨k, 0, none⟩) 0 0) (show w3.heap.size + 1 + 1 = (World.alloc (World.alloc w3 _) _).heap.size by simp)) rfl HROW3.out ?_; refine Hid.out ?_)
    refine Nu.hid ?_
    intro gb4 c4 w4 hown hgb4 hlt4 hlc4 hb4
    rw [← List.map_take] at hown
    have HT4 := Nu.hid (own_text HTK.out (fun i hi => (HTX.out i hi).1) hown)
    obtain ⟨k1, k2, hb34⟩ := boxes' hb4
    have HK2 := Nu.hid k2
    have HB4 := Nu.hid (HB3.out.trans (hb34.mono hs3))
    have hs4 := lt_of_block k2
    clear hown hb4 k1 k2 hb34
    go_wp2_with (go_at_call 29; refine (read_graph_any _ len0 c4 _ _ HT4.out (by intro x hx; cases hx; exact hlt4) (by unfold maxLen; omega) hlc4).mono ?_; refine Hid.out ?_)
    refine Nu.hid ?_
    rintro e w5 ⟨hb5, hor⟩
    rw [HRAW.out] at hor
    rcases hor with ⟨y, hy, rfl⟩ | ⟨s, v, hy, _⟩
    rotate_left
    · cases hy
    cases hy
    have k2' := (hb5.block _ hs4).trans HK2.out
    obtain ⟨d0, d1, -⟩ := pair_cells (kept1 (.cells #[.int .i64 x.1, .int .i64 x.2] 57) (kept1 (.cells #[.int .i64 0, .slice none 0 0] 26) k2'))
    have hs5 := lt_of_block k2'
    have HB5 := Nu.hid (HB4.out.trans (hb5.mono HB4.out.size))
    have hsw5 : w.heap.size ≤ w5.heap.size := HB5.out.size
    clear hb5 k2'
    have eqR := eqReject
    have t1 : (x.1 == x.1 && x.2 == x.2) = true := by simp
    have hbB : Below w.heap.size w ((w5.alloc (.cells #[.int .i64 0, .slice none 0 0] 26)).alloc (.cells #[.int .i64 x.1, .int .i64 x.2] 57)) := (HB5.out.alloc hsw5 _).alloc (by simp; omega) _
    have heq := fun W => equal_any 0 0 none none 0 0 [] [] W (EdgesAt.nil _ _) (EdgesAt.nil _ _) (by simp)
    rw [Si.equal_yes rfl rfl] at heq
    unfold graphVal at heq
    have HEQ := Nu.hid heq
    have HBB := Nu.hid hbB
    clear heq hbB
    go_wp2_with (go_at_call 13; refine (HEQ.out _).mono ?_; rintro e w6 ⟨rfl, hb6⟩)
    go_ret
    exact ⟨rfl, HBB.out.trans (hb6.mono HBB.out.size)⟩
  · have hgood := Pa.raw_good HRAW.out
    obtain ⟨va, vc, rfl, hea, _⟩ := hop.edges
    have hpl : s.pairs.length ≤ 2097152 := by
      have h2 := hgood.few
      have h3 := hgood.m1
      omega
    have hml := hgood.few'
    have HGOOD := Nu.hid hgood
    have HEA := Nu.hid hea
    have j0 : ((0 : Int) != 0) = false := rfl
    unfold rawVal rejVal
    dsimp only
    have hbA : Below w.heap.size w ((w3.alloc (.cells #[.int .i64 s.n, .slice va s.pairs.length vc] 55)).alloc (.cells #[.int .i64 0, .int .i64 0] 57)) := (HB3.out.alloc hs3 _).alloc (by simp; omega) _
    have HROW3 := Nu.hid (HROW.out.later hbA)
    clear hgood hop hea hbA
    go_wp2_with (at_builtin; refine wpList_copy rfl _ _ 53 rfl 5 .u8 i0 1 Tryd.underlying53 hi hz0 hz1 hz2 (by decide) _ a0 len0 cap0 z0 (by exact congrArg (fun k => Value.slice (some ⟨k, 0, none⟩) 0 0) (show w3.heap.size + 1 + 1 = (World.alloc (World.alloc w3 _) _).heap.size by simp)) rfl HROW3.out ?_; refine Hid.out ?_)
    refine Nu.hid ?_
    intro gb4 c4 w4 hown hgb4 hlt4 hlc4 hb4
    rw [← List.map_take] at hown
    have HT4 := Nu.hid (own_text HTK.out (fun i hi => (HTX.out i hi).1) hown)
    obtain ⟨k1, k2, hb34⟩ := boxes' hb4
    have HK1 := Nu.hid k1
    have HK2 := Nu.hid k2
    have HB34 := Nu.hid hb34
    have HB4 := Nu.hid (HB3.out.trans (hb34.mono hs3))
    have hs4 := lt_of_block k2
    have hs4' := lt_of_block k1
    have hs34 : w3.heap.size ≤ w4.heap.size := hb34.size
    clear hown hb4 k1 k2 hb34
    go_wp2_with (go_at_call 29; refine (read_graph_any _ len0 c4 _ _ HT4.out (by intro x hx; cases hx; exact hlt4) (by unfold maxLen; omega) hlc4).mono ?_; refine Hid.out ?_)
    refine Nu.hid ?_
    rintro e w5 ⟨hb5, hor⟩
    rw [HRAW.out] at hor
    rcases hor with ⟨y, hy, _⟩ | ⟨s', v5, hy, rfl, hown5⟩
    · cases hy
    cases hy
    obtain ⟨a5, c5, rfl, _, _, hea5, _⟩ := hown5.form
    have HEA5 := Nu.hid hea5
    have k1' := (hb5.block _ hs4').trans HK1.out
    have k2' := (hb5.block _ hs4).trans HK2.out
    obtain ⟨b0, b1, -⟩ := pair_cells (kept1 (.cells #[.int .i64 0, .int .i64 0] 57) (kept1 (.cells #[.int .i64 s.n, .slice a5 (Si.made [] s.pairs).length c5] 26) k1'))
    obtain ⟨d0, d1, -⟩ := pair_cells (kept1 (.cells #[.int .i64 0, .int .i64 0] 57) (kept1 (.cells #[.int .i64 s.n, .slice a5 (Si.made [] s.pairs).length c5] 26) k2'))
    have hs5 := lt_of_block k2'
    have hs5' := lt_of_block k1'
    have hb35 : Below w3.heap.size w3 w5 := HB34.out.trans (hb5.mono hs34)
    have HB5 := Nu.hid (HB4.out.trans (hb5.mono HB4.out.size))
    have hsw5 : w.heap.size ≤ w5.heap.size := HB5.out.size
    have HEAR := Nu.hid (HEA.out.later hb35)
    clear hb5 k1' k2' hown5 hea5 hb35
    have eqR := eqReject
    have t1 : ((0 : Int) == 0 && (0 : Int) == 0) = true := rfl
    have hbX : Below w5.heap.size w5 ((w5.alloc (.cells #[.int .i64 s.n, .slice a5 (Si.made [] s.pairs).length c5] 26)).alloc (.cells #[.int .i64 0, .int .i64 0] 57)) := ((Below.refl _ _).alloc (Nat.le_refl _) _).alloc (by simp) _
    have hrm := rmake_any s.n va vc s.pairs _ (HEAR.out.later hbX) (by omega)
    have HRM := Nu.hid hrm
    have HBX := Nu.hid hbX
    clear hrm hbX
    go_wp2_with (go_at_call 10; refine HRM.out.mono ?_; refine Hid.out ?_)
    refine Nu.hid ?_
    rintro e w6 ⟨ra, rc, he6, hea6, hb6⟩
    rw [HGOOD.out.made] at he6 hea6
    dsimp only at he6 hea6
    subst he6
    obtain ⟨g1, -, hb56⟩ := boxes hb6
    have hs6 := lt_of_block g1
    obtain ⟨m0, m1, -⟩ := pair_cells (kept1 (.cells #[.int .i64 s.n, .slice ra (Si.made [] s.pairs).length rc] 26) g1)
    have HB6 := Nu.hid (HB5.out.trans (hb56.mono hsw5))
    have hsw6 : w.heap.size ≤ w6.heap.size := HB6.out.size
    have hbY : Below w6.heap.size w6 (w6.alloc (.cells #[.int .i64 s.n, .slice ra (Si.made [] s.pairs).length rc] 26)) := (Below.refl _ _).alloc (Nat.le_refl _) _
    have heq := equal_any s.n s.n a5 ra c5 rc (Si.made [] s.pairs) (Si.made [] s.pairs) _ ((HEA5.out.later hb56).later hbY) (hea6.later hbY) (by omega)
    rw [Si.equal_yes rfl rfl] at heq
    unfold graphVal at heq
    have HEQ := Nu.hid heq
    have HBY := Nu.hid (HB6.out.trans (hbY.mono hsw6))
    clear heq hbY hb6 hb56 g1 hea6
    clear eqR
    go_wp2_with (go_at_call 13; refine HEQ.out.mono ?_; rintro e w7 ⟨rfl, hb7⟩)
    go_ret
    exact ⟨by simp, HBY.out.trans (hb7.mono HBY.out.size)⟩

set_option maxRecDepth 100000 in
/-- What the walk gives, for every argument and every world that holds the tables. -/
theorem contract (H : Type) (enc : TypeId × Value → H) (W : World) (base : Nat) (args : Array Value) (ds gs : List (DataW H)) (before : List MemPlace)
    (hval : ∀ (j : Nat) t v, Tryd.f8.params[j]? = some t → args[j]? = some v → Value.okWide Tryd.prog W .any base t v)
    (hW : DataW.Whole enc Tryd.prog Tryd.f8.params.toList Rows.simpleReadsSpec.vars false W args.toList ds gs before)
    (hsz : (DataW.weightsEach Tryd.prog (Tryd.f8.params.toList ++ (OpenSpec.ofChange Rows.simpleReadsSpec).bare.plain.varTypes Tryd.prog) (ds ++ gs)).all (· ≤ reachBytes) = true)
    (hL : laidMet Tryd.prog listed W) :
    Calls Tryd.prog 8 args W fun e W' => ∃ v, e = .returned v ∧ Rows.simpleReadsSpec.post enc Tryd.prog Tryd.f8 false true false false W args v W' := by
  have hW' := hW
  obtain ⟨p, q, hA0, hV, rfl, hfz, hnd⟩ := hW
  have hA : DataW.TrodAll enc Tryd.prog W 0 (fun _ => true) true Tryd.f8.params.toList args.toList ds p := hA0
  rw [Tryd.params8] at hA hval hsz
  obtain ⟨v0, vs0, d0, ds0, p0, q0, hargs, rfl, rfl, h0, r0⟩ := trodAll_cons hA
  obtain ⟨rfl, rfl, rfl⟩ := trodAll_nil r0
  obtain rfl : args = #[v0] := by cases args; simp_all
  obtain ⟨rfl, rfl⟩ := trodVars_none hV
  obtain ⟨a0, len0, cap0, rfl⟩ := okWide_slice Tryd.underlying53 (hval 0 53 v0 rfl rfl)
  have k0 := h0
  have lt0 : ∀ x ∈ p0, x.block < W.heap.size := by obtain ⟨m, hm⟩ := k0; exact DataW.trod_lt m _ _ _ hm
  obtain ⟨z0, w0⟩ := IsRow.of_trod (j := 0) Tryd.underlying53 Tryd.underlying5 cellsU8 bytesU8 h0 hsz rfl rfl
  clear hA0
  refine (walk a0 len0 cap0 z0 W w0 (table hL)).mono fun e W' ⟨he, bel⟩ => ?_
  subst he
  exact ⟨_, rfl, _, _, _, [], _, [], hW', trodAll_mk1 (shut_bool Tryd.underlying4 _), (trodAll_cons_mk (Below.trod laidOut (by kernel_rfl) (of_decide_eq_true (by kernel_rfl)) k0 bel lt0) trodAll_mk0), rfl, bel.frame _, fun h => by cases h⟩

theorem laid_met (os : Os) : laidMet Tryd.prog Rows.simpleReadsRow.laid ((laidWorld os).forCall (fun _ _ => 0) ⟨#[], #[.slice none 0 0], []⟩).memory :=
  laidMet_of_run' 100 (by kernel_rfl) (by kernel_rfl)
theorem reads (os : Os) {H : Type} (enc : TypeId × Value → H) : ∃ places, DataW.whole enc Tryd.prog ((laidWorld os).forCall (fun _ _ => 0) ⟨#[], #[.slice none 0 0], []⟩).memory Tryd.f8.params.toList Rows.simpleReadsSpec.vars false (#[.slice none 0 0] : Array Value).toList 8 = some ([.nil], [], places) :=
  ⟨[], by kernel_rfl⟩

set_option maxRecDepth 100000 in
theorem lifted (os : Os) (started : os.Started) (H : Type) (enc : TypeId × Value → H) (F : Stop.Interp) :
    ReturnsInHanded {} Tryd.checked os 8 .any ((OpenSpec.ofChange Rows.simpleReadsSpec).preRow enc Tryd.prog Tryd.f8 Rows.simpleReadsRow.domain false Rows.simpleReadsRow.laid) (((OpenSpec.ofChange Rows.simpleReadsSpec).at F).post enc Tryd.prog Tryd.f8 false true false false) := by
  obtain ⟨places, hx⟩ := reads os enc
  refine returnsInHanded_of_row (C := Tryd.checked) (s := (OpenSpec.ofChange Rows.simpleReadsSpec)) own started (by kernel_rfl) Tryd.func8
    (witness_row_at (enc := enc) (C := Tryd.checked) false (laidWorld os) #[.slice none 0 0] rfl (by kernel_rfl) (by kernel_rfl) (by kernel_rfl)
      (OpenSpec.preRow_of_cond 8 hx (by kernel_rfl) (fun k hk => by cases hk) (by kernel_rfl) (laid_met os))) ?_
  intro W base args ds gs before hval hW _ hcond hsz hL _ _
  exact contract H enc W base args ds gs before hval hW hsz hL

theorem said : Rows.SimpleReadsSaid :=
  OpenClaim.holds_of_cond 8 Tryd.f8 rfl rfl rfl rfl rfl rfl rfl ⟨rfl, rfl, rfl, rfl, rfl⟩ rfl rfl rfl rfl rfl (by kernel_rfl) Tryd.func8 (by kernel_rfl)
    (of_decide_eq_true (by kernel_rfl)) (by unfold Func.isWrapper; first | (rw [if_pos (by decide +kernel)]; kernel_rfl) | (rw [if_neg (by decide +kernel)]; exact ⟨rfl, rfl⟩))
    (fun os started H enc _ F => by rw [OpenClaim.pre_eq_preRow]; exact lifted os started H enc F)

theorem plain (f : FuncId) (fn : Func) (hf : Tryd.pinned.checked.prog.funcNamed "tangram/tangramlaw03.SimpleReads" = some f) (hfn : Tryd.pinned.checked.prog.funcs[f]? = some fn) :
    true = Tryd.pinned.checked.prog.looks [] ∧ ∀ (j : Nat) t, fn.params[j]? = some t → Tryd.pinned.checked.prog.wantsStandIn t = false := by
  obtain rfl : f = 8 := Option.some.inj ((show Tryd.prog.funcNamed "tangram/tangramlaw03.SimpleReads" = some 8 by kernel_rfl).symm.trans hf) |>.symm
  obtain rfl : fn = Tryd.f8 := (Option.some.inj (Tryd.func8.symm.trans hfn)).symm
  refine ⟨by kernel_rfl, fun j t ht => ?_⟩
  rw [Tryd.params8] at ht
  obtain rfl : t = 53 := by simpa using Array.mem_of_getElem? ht
  exact (show Tryd.prog.wantsStandIn 53 = false by kernel_rfl)

theorem card : Rows.SimpleReadsCardSaid :=
  Claim7.holds_tied_plain_at .later [] _ _ _ _ said (fun _ h => by cases h) (by kernel_rfl) (fun _ h => by cases h) simpleReads_row_tie rfl ⟨rfl, rfl⟩ (by kernel_rfl) rfl plain (by kernel_rfl)

end lawSReads

theorem simpleReads_holds : Rows.SimpleReadsCardSaid := lawSReads.card

end Go.Proofs.YtmgjfakdjponoaaDoor
