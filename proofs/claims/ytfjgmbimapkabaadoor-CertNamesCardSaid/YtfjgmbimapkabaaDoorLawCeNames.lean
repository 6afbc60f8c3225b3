/-
  Proved: the law CertNames answers true.
-/
import Derived.Test.YtfjgmbimapkabaaDoorCeLy
namespace Go.Proofs.YtfjgmbimapkabaaDoor
open Go.ChangeShapes Go.WideShapes Go.ChangeAt Go.RowKit

namespace lawCeN

def tab : List (List UInt8 × Nat) := [([], 0), ([113], 0), ([112, 32, 32, 49, 10, 10], 2), ([112, 32, 48, 49, 10, 10], 2), ([112, 32, 49, 48, 52, 56, 53, 55, 55, 10], 2), ([112, 32, 50, 10, 48, 10], 6), ([112, 32, 48, 10, 10], 4), ([112, 32, 48], 3), ([112, 32, 49, 10, 51, 32, 10], 6), ([110, 32, 49, 10, 51, 32, 49, 10], 6), ([110, 32, 50, 10, 48, 32, 50, 10, 48, 32, 49, 10], 8), ([110, 32, 49, 10, 48, 32, 49, 32, 50, 10], 7)]
/-- The table's cells. -/
def cellsT : List (List UInt8 × Nat) → List Value
  | [] => []
  | p :: r => .string ⟨p.1.toArray⟩ :: .int .i64 (p.2 : Int) :: cellsT r
theorem cellsT_at : ∀ (l : List (List UInt8 × Nat)) (k : Nat) (p : List UInt8 × Nat), l[k]? = some p → (cellsT l)[k * 2]? = some (.string ⟨p.1.toArray⟩) ∧ (cellsT l)[k * 2 + 1]? = some (.int .i64 (p.2 : Int))
  | q :: r, 0, p, h => by cases h; exact ⟨rfl, rfl⟩
  | q :: r, k + 1, p, h => by
    have := cellsT_at r k p (by simpa using h)
    rw [show (k + 1) * 2 = k * 2 + 1 + 1 by omega]
    simpa [cellsT] using this
theorem told : ∀ k, k < 12 → ∃ (L : List UInt8) (a : Nat), tab[k]? = some (L, a) ∧ Ce.parse (Ce.ofL L) L.length = (Ce.zero, (a : Int), 170) ∧ L.length ≤ 100 := fun k hk => by
  rcases (show k = 0 ∨ k = 1 ∨ k = 2 ∨ k = 3 ∨ k = 4 ∨ k = 5 ∨ k = 6 ∨ k = 7 ∨ k = 8 ∨ k = 9 ∨ k = 10 ∨ k = 11 by omega) with rfl | rfl | rfl | rfl | rfl | rfl | rfl | rfl | rfl | rfl | rfl | rfl
  all_goals exact ⟨_, _, rfl, by kernel_rfl, by decide⟩
theorem bad : ¬ Ce.good ⟨true, [[2, 1]], []⟩ := fun h => by
  unfold Ce.good at h
  rw [if_pos rfl] at h
  have := (h.2.1 [2, 1] (by simp) 1 (by simp)).2
  simp at this
theorem bad_print (w : World) (ht : Tab ((w.alloc (.cells #[.int .i64 2, .int .i64 1] 3)).alloc (.cells #[.slice (some ⟨w.heap.size, 0, none⟩) 2 2] 34))) :
    Calls Tryd.prog 10 #[.agg #[.bool true, .slice (some ⟨w.heap.size + 1, 0, none⟩) 1 1, .slice none 0 0]] ((w.alloc (.cells #[.int .i64 2, .int .i64 1] 3)).alloc (.cells #[.slice (some ⟨w.heap.size, 0, none⟩) 2 2] 34)) fun e w' => e = .returned (.tuple #[.string ⟨#[]⟩, .int .i64 170]) ∧ Below ((w.alloc (.cells #[.int .i64 2, .int .i64 1] 3)).alloc (.cells #[.slice (some ⟨w.heap.size, 0, none⟩) 2 2] 34)).heap.size ((w.alloc (.cells #[.int .i64 2, .int .i64 1] 3)).alloc (.cells #[.slice (some ⟨w.heap.size, 0, none⟩) 2 2] 34)) w' := by
  have h0 : ((w.alloc (.cells #[.int .i64 2, .int .i64 1] 3)).alloc (.cells #[.slice (some ⟨w.heap.size, 0, none⟩) 2 2] 34)).heap[w.heap.size]? = some (.cells #[.int .i64 2, .int .i64 1] 3 (0, 0)) := by
    rw [Below.heap_alloc _ _ _ (by simp)]
    exact heap_alloc_new w _
  have h1 := heap_alloc_new (w.alloc (.cells #[.int .i64 2, .int .i64 1] 3)) (.cells #[.slice (some ⟨w.heap.size, 0, none⟩) 2 2] 34)
  rw [World.size_alloc] at h1
  refine (print17_any (c := ⟨true, [[2, 1]], []⟩) (ca := 1) (ce := 0) (ao := some ⟨w.heap.size + 1, 0, none⟩) (eo := none) ⟨rfl, fun k l hl => ?_, EdgesAt.nil _ _⟩ ⟨by simp, by simp, by simp⟩ ht).mono fun e w' h => ⟨h.1.1 bad, h.2⟩
  have hk := (List.getElem?_eq_some_iff.1 hl).1
  simp at hk
  subst hk
  cases hl
  exact ⟨w.heap.size + 1, 0, some ⟨w.heap.size, 0, none⟩, 2, rfl, cell_of_one h1, IntsBlk.at (l := [2, 1]) h0⟩
/-- What stands: the table. -/
structure At (w W : World) : Prop where
  low : Below w.heap.size w W
  tab : W.heap[w.heap.size]? = some (.cells (cellsT tab).toArray 22 (0, 0))
theorem At.later {w W W' : World} (h : At w W) (hb : Below W.heap.size W W') : At w W' := ⟨h.low.trans (hb.mono h.low.size), (hb.block _ (lt_of_block h.tab)).trans h.tab⟩
theorem At.cell {w W : World} (h : At w W) {k : Nat} {L : List UInt8} {a : Nat} (hk : lawCeN.tab[k]? = some (L, a)) : W.cell? ⟨w.heap.size, k * 2, none⟩ = some (.string ⟨L.toArray⟩) ∧ W.cell? ⟨w.heap.size, k * 2 + 1, none⟩ = some (.int .i64 (a : Int)) := by
  obtain ⟨h1, h2⟩ := cellsT_at _ _ _ hk
  exact ⟨by simp [World.cell?, h.tab, h1], by simp [World.cell?, h.tab, h2]⟩

set_option maxRecDepth 100000 in
set_option maxHeartbeats 4000000 in
theorem walk (w : World) (ht : Tab w) :
    Calls Tryd.prog 3 #[] w fun e w' => e = .returned (.bool true) ∧ Below w.heap.size w w' := by
  have HTB := Nu.hid (tab_below ht)
  have HS : Hid (At w (w.alloc (.cells (cellsT tab).toArray 22))) := Nu.hid ⟨(Below.refl _ _).alloc (Nat.le_refl _) _, heap_alloc_new w _⟩
  clear ht
  go_enter Tryd.func3, Tryd.ntmps3
  go_wp2
  go_loopw [22] (fun cv wr => ∃ k : Nat, k ≤ 12 ∧ cv = .int .i64 (k : Int) ∧ At w wr) (fun cv _ => 12 - (intOf cv).toNat)
  case atStart => exact ⟨0, Nat.zero_le _, rfl, HS.out⟩
  case round =>
    obtain ⟨k, hk, rfl, ha⟩ := hrel
    have HA := Nu.hid ha
    clear ha
    by_cases hlt : k < 12
    · have hlti : (k : Int) < 12 := by omega
      have hk0 : (0 : Int) ≤ (k : Int) := by omega
      obtain ⟨L, a, hta, hpa, hll⟩ := told k hlt
      obtain ⟨c0, c1⟩ := HA.out.cell hta
      have hlo : L.length ≤ 4611686018427387904 := by omega
      go_wp2_with fail
      have hbx : Below wr.heap.size wr (wr.alloc (.cells #[.string ⟨L.toArray⟩, .int .i64 (a : Int)] 22)) := (Below.refl _ _).alloc (Nat.le_refl _) _
      have hx := heap_alloc_new wr (.cells #[.string ⟨L.toArray⟩, .int .i64 (a : Int)] 22)
      generalize wr.alloc (.cells #[.string ⟨L.toArray⟩, .int .i64 (a : Int)] 22) = W at hbx hx ⊢
      have HA1 := Nu.hid (HA.out.later (hbx.trans ((sb_below W ⟨L.toArray⟩).mono hbx.size)))
      have hx1 := ((sb_below W ⟨L.toArray⟩).block _ (lt_of_block hx)).trans hx
      have HX1 := Nu.hid hx1
      have HPP := Nu.hid (sb_parse L W hlo)
      rw [hpa] at HPP
      simp only [sb_conv L W]
      clear hbx hx hx1 hpa c0 c1 hll hlo hta
      go_wp2_with (go_at_call 9; refine HPP.out.mono ?_; rintro e w5 he; obtain ⟨hb5, so, sa, sb, sc, rfl, -⟩ := he.cert (pl := false) (n := 0) (m := 0) rfl rfl rfl; clear he; have HA5 := Nu.hid (HA1.out.later hb5); have HX5 := Nu.hid ((hb5.block _ (lt_of_block HX1.out)).trans HX1.out); clear hb5 HPP HX1 HA1; refine Hid.out ?_)
      refine Nu.hid ?_
      have hbz := box_below w5 (.bool false) (.slice so 0 sa) (.slice sb 0 sc)
      obtain ⟨u0, u1, u2, -⟩ := three_cells17 (heap_alloc_new w5 (.cells #[.bool false, .slice so 0 sa, .slice sb 0 sc] 27))
      obtain ⟨v0, v1, -⟩ := two_cells17 ((hbz.block _ (lt_of_block HX5.out)).trans HX5.out)
      have HA6 := Nu.hid (HA5.out.later hbz)
      clear hbz HA5 HX5
      go_wp2
      go_roundw
      case rel => exact ⟨k + 1, by omega, by go_num, HA6.out⟩
      case measure => simp [intOf]; omega
    · have hlti : ¬ ((k : Int) < 12) := by omega
      have b1 : Below wr.heap.size wr (wr.alloc (.cells #[.int .i64 2, .int .i64 1] 3)) := (Below.refl _ _).alloc (Nat.le_refl _) _
      have b2 : Below wr.heap.size wr ((wr.alloc (.cells #[.int .i64 2, .int .i64 1] 3)).alloc (.cells #[.slice (some ⟨wr.heap.size, 0, none⟩) 2 2] 34)) := b1.alloc (by simp) _
      have HP := Nu.hid (bad_print wr (HTB.out _ (HA.out.later b2).low))
      have HA1 := Nu.hid (HA.out.later b2)
      clear b1 b2
      go_wp2_with (go_at_call 10; refine HP.out.mono ?_; rintro e w1 ⟨rfl, hb1⟩; have HA2 := Nu.hid (HA1.out.later hb1); clear hb1; refine Hid.out ?_)
      refine Nu.hid ?_
      clear HP HA1
      go_wp2_with (go_at_call 11; refine (fixed17_any (HTB.out _ HA2.out.low)).mono ?_; rintro e w2 ⟨rfl, hb2⟩; have HA3 := Nu.hid (HA2.out.later hb2); clear hb2; refine Hid.out ?_)
      refine Nu.hid ?_
      go_wp2
      go_ret
      exact ⟨by simp, HA3.out.low⟩
set_option maxRecDepth 100000 in
/-- What the walk gives, for every argument and every world that holds the tables. -/
theorem contract (H : Type) (enc : TypeId × Value → H) (W : World) (base : Nat) (args : Array Value) (ds gs : List (DataW H)) (before : List MemPlace)
    (hval : ∀ (j : Nat) t v, Tryd.f3.params[j]? = some t → args[j]? = some v → Value.okWide Tryd.prog W .any base t v)
    (hW : DataW.Whole enc Tryd.prog Tryd.f3.params.toList Rows.certNamesSpec.vars false W args.toList ds gs before)
    (hsz : (DataW.weightsEach Tryd.prog (Tryd.f3.params.toList ++ (OpenSpec.ofChange Rows.certNamesSpec).bare.plain.varTypes Tryd.prog) (ds ++ gs)).all (· ≤ reachBytes) = true)
    (hL : laidMet Tryd.prog listed W) :
    Calls Tryd.prog 3 args W fun e W' => ∃ v, e = .returned v ∧ Rows.certNamesSpec.post enc Tryd.prog Tryd.f3 false true false false W args v W' := by
  have hW' := hW
  obtain ⟨p, q, hA0, hV, rfl, hfz, hnd⟩ := hW
  have hA : DataW.TrodAll enc Tryd.prog W 0 (fun _ => true) true Tryd.f3.params.toList args.toList ds p := hA0
  rw [Tryd.params3] at hA hval hsz
  obtain ⟨hargs, rfl, rfl⟩ := trodAll_nil hA
  obtain rfl : args = #[] := by cases args; simp_all
  obtain ⟨rfl, rfl⟩ := trodVars_none hV
  clear hA0
  refine (walk  W  (table hL)).mono fun e W' ⟨he, bel⟩ => ?_
  subst he
  exact ⟨_, rfl, _, _, _, [], _, [], hW', trodAll_mk1 (shut_bool Tryd.underlying4 _), trodAll_mk0, rfl, bel.frame _, fun h => by cases h⟩

theorem laid_met (os : Os) : laidMet Tryd.prog Rows.certNamesRow.laid ((laidWorld os).forCall (fun _ _ => 0) ⟨#[], #[], []⟩).memory :=
  laidMet_of_run' 100 (by kernel_rfl) (by kernel_rfl)
theorem reads (os : Os) {H : Type} (enc : TypeId × Value → H) : ∃ places, DataW.whole enc Tryd.prog ((laidWorld os).forCall (fun _ _ => 0) ⟨#[], #[], []⟩).memory Tryd.f3.params.toList Rows.certNamesSpec.vars false (#[] : Array Value).toList 8 = some ([], [], places) :=
  ⟨[], by kernel_rfl⟩

set_option maxRecDepth 100000 in
theorem lifted (os : Os) (started : os.Started) (H : Type) (enc : TypeId × Value → H) (F : Stop.Interp) :
    ReturnsInHanded {} Tryd.checked os 3 .any ((OpenSpec.ofChange Rows.certNamesSpec).preRow enc Tryd.prog Tryd.f3 Rows.certNamesRow.domain false Rows.certNamesRow.laid) (((OpenSpec.ofChange Rows.certNamesSpec).at F).post enc Tryd.prog Tryd.f3 false true false false) := by
  obtain ⟨places, hx⟩ := reads os enc
  refine returnsInHanded_of_row (C := Tryd.checked) (s := (OpenSpec.ofChange Rows.certNamesSpec)) own started (by kernel_rfl) Tryd.func3
    (witness_row_at (enc := enc) (C := Tryd.checked) false (laidWorld os) #[] rfl (by kernel_rfl) (by kernel_rfl) (by kernel_rfl)
      (OpenSpec.preRow_of_cond 8 hx (by kernel_rfl) (fun k hk => by cases hk) (by kernel_rfl) (laid_met os))) ?_
  intro W base args ds gs before hval hW _ hcond hsz hL _ _
  exact contract H enc W base args ds gs before hval hW hsz hL

theorem said : Rows.CertNamesSaid :=
  OpenClaim.holds_of_cond 3 Tryd.f3 rfl rfl rfl rfl rfl rfl rfl ⟨rfl, rfl, rfl, rfl, rfl⟩ rfl rfl rfl rfl rfl (by kernel_rfl) Tryd.func3 (by kernel_rfl)
    (of_decide_eq_true (by kernel_rfl)) (by unfold Func.isWrapper; first | (rw [if_pos (by decide +kernel)]; kernel_rfl) | (rw [if_neg (by decide +kernel)]; exact ⟨rfl, rfl⟩))
    (fun os started H enc _ F => by rw [OpenClaim.pre_eq_preRow]; exact lifted os started H enc F)

theorem plain (f : FuncId) (fn : Func) (hf : Tryd.pinned.checked.prog.funcNamed "tangram/tangramlaw17.CertNames" = some f) (hfn : Tryd.pinned.checked.prog.funcs[f]? = some fn) :
    true = Tryd.pinned.checked.prog.looks [] ∧ ∀ (j : Nat) t, fn.params[j]? = some t → Tryd.pinned.checked.prog.wantsStandIn t = false := by
  obtain rfl : f = 3 := Option.some.inj ((show Tryd.prog.funcNamed "tangram/tangramlaw17.CertNames" = some 3 by kernel_rfl).symm.trans hf) |>.symm
  obtain rfl : fn = Tryd.f3 := (Option.some.inj (Tryd.func3.symm.trans hfn)).symm
  refine ⟨by kernel_rfl, fun j t ht => ?_⟩
  rw [Tryd.params3] at ht
  cases (Array.mem_of_getElem? ht) with | mk h => cases h

theorem card : Rows.CertNamesCardSaid :=
  Claim7.holds_tied_plain_at .later [] _ _ _ _ said (fun _ h => by cases h) (by kernel_rfl) (fun _ h => by cases h) certNames_row_tie rfl ⟨rfl, rfl⟩ (by kernel_rfl) rfl plain (by kernel_rfl)

end lawCeN

theorem certNames_holds : Rows.CertNamesCardSaid := lawCeN.card

#print axioms certNames_holds
end Go.Proofs.YtfjgmbimapkabaaDoor
