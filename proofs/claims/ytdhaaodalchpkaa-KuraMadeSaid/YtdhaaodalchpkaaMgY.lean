import Derived.Test.YtdhaaodalchpkaaMgI
import Derived.Test.YtdhaaodalchpkaaSiValid
import Derived.Test.YtdhaaodalchpkaaMgA
import Derived.Deep.QuietTactic
import Derived.BigQuiet
import Derived.Test.YtdhaaodalchpkaaKwE
import Derived.Test.YtdhaaodalchpkaaMgG
/-
  The document's own Copy.
-/
namespace Go.Proofs.Ytdhaaodalchpkaa
open Go.RowKit Go.Sort

set_option maxRecDepth 100000 in
set_option maxHeartbeats 4000000 in
theorem rcopy_any (n : Int) (ao : Option Addr) (ca : Nat) (es : List (Int × Int)) (w : World) (he : EdgesAt w ao es) (hl : es.length * 16 ≤ 140737488355328) :
    Calls Try.prog 10 #[graphVal n ao es.length ca] w fun e w' => ∃ v, e = .returned (.agg #[.int .i64 n, v]) ∧ OwnE w' w.heap.size v es ∧ Below w.heap.size w w' := by
  obtain ⟨i0, hi, hz0, hz1, hz2⟩ := info_parts Try.infoEdge
  have HE := Nu.hid he
  clear he
  unfold graphVal
  go_enter Try.func10, Try.ntmps10
  go_wp2
  go_loopw [3, 4] (fun v c wr => ∃ (k : Nat) (L : List (Int × Int)), k ≤ es.length ∧ c = .int .i64 k ∧ L = es.take k ∧ OwnE wr (w.heap.size + 2) v L ∧ wr.heap[w.heap.size]? = some (.cells #[.int .i64 n, .slice ao es.length ca] 24 (0, 0)) ∧ wr.heap[w.heap.size + 1]? = some (.cells #[.int .i64 0, .slice none 0 0] 24 (0, 0)) ∧ Below w.heap.size w wr) (fun _ c _ => es.length - (intOf c).toNat)
  case atStart =>
    refine ⟨0, [], Nat.zero_le _, rfl, by simp, OwnE.nil _ _, ?_, ?_, ((Below.refl _ _).alloc (Nat.le_refl _) _).alloc (by simp) _⟩
    · rw [Below.heap_alloc _ _ _ (by simp)]
      exact heap_alloc_new w _
    · have := heap_alloc_new (w.alloc (.cells #[.int .i64 n, .slice ao es.length ca] 24)) (.cells #[.int .i64 0, .slice none 0 0] 24)
      simpa using this
  case round =>
    obtain ⟨k, L, hk, rfl, hL, hrow, hg1, hg2, hb⟩ := hrel
    obtain ⟨a0, a1, -⟩ := pair_cells hg1
    obtain ⟨b0, b1, bf⟩ := pair_cells hg2
    have hs1 := lt_of_block hg1
    have hs2 := lt_of_block hg2
    have hLl : L.length = k := by rw [hL]; simp; omega
    have HG1 := Nu.hid hg1
    have HG2 := Nu.hid hg2
    have HL := Nu.hid hL
    have HROW := Nu.hid hrow
    have HB := Nu.hid hb
    have HLL := Nu.hid hLl
    have hs0 : w.heap.size ≤ wr.heap.size := hb.size
    clear hg1 hg2 hL hLl
    by_cases hlt : k < es.length
    · have hlti : (k : Int) < (es.length : Int) := by omega
      have hk0 : (0 : Int) ≤ (k : Int) := by omega
      obtain ⟨p, hp⟩ : ∃ p, es[k]? = some p := ⟨_, List.getElem?_eq_getElem hlt⟩
      obtain ⟨b, o, rfl, c0, c1⟩ := (HE.out.later hb) k p hp
      have hbl : b < wr.heap.size := block_lt_of_cell c0
      have HSN : Hid (es.take (k + 1) = L ++ [p]) := by
        show es.take (k + 1) = L ++ [p]
        rw [HL.out]
        exact Si.take_snoc hp
      clear hp hb hrow
      go_wp2_with (at_builtin; refine wpList_append_own _ rfl _ _ 22 rfl (w.heap.size + 2) 57 i0 (.agg #[.int .i64 0, .int .i64 0]) 2 16 Try.underlying22 hi hz0 hz1 hz2 rfl (by decide) _ _ _ rfl (World.ownsRow.alloc HROW.out _) ⟨wr.heap.size, 0, none⟩ 1 1 [.int .i64 p.1, .int .i64 p.2] rfl rfl (new_two_e _ _ rfl _ _ _) (by simp [Value.oneCell']) (by rw [HLL.out]; unfold maxLen; omega) (by rw [HLL.out]; omega) (by simp; omega) ?_; refine Hid.out ?_)
      refine Nu.hid ?_
      intro v' w3 hrow3 hg3 _
      have HROW3 : Hid (OwnE w3 (w.heap.size + 2) v' (L ++ [p])) := by
        unfold OwnE
        rw [flatE_snoc, List.length_append]
        exact hrow3
      have HG13 := Nu.hid ((hg3.block _ (by simp; omega) (fun h => HROW.out.far (by omega) h.symm)).trans ((Below.heap_alloc _ _ _ hs1).trans HG1.out))
      have HG23 := Nu.hid ((hg3.block _ (by simp; omega) (fun h => HROW.out.far (by omega) h.symm)).trans ((Below.heap_alloc _ _ _ hs2).trans HG2.out))
      have HB3 := Nu.hid ((HB.out.alloc hs0 _).grown hg3 (by simp; omega) (fun j hj => by have := (World.ownsRow.lt HROW.out j hj).1; omega))
      clear hrow3 hg3
      go_wp2
      go_roundw
      case rel => exact ⟨k + 1, _, by omega, by go_num, HSN.out.symm, HROW3.out, HG13.out, HG23.out, HB3.out⟩
      case measure => simp [intOf]; omega
    · have hd : ¬ ((k : Int) < (es.length : Int)) := by omega
      have hLe : L = es := by
        rw [HL.out]
        exact List.take_of_length_le (by omega)
      have HLE := Nu.hid hLe
      clear hLe hb hrow
      obtain ⟨ao', cap', rfl, _, _, _, hx⟩ := HROW.out.form
      have HX := Nu.hid hx
      clear hx
      go_wp2
      have hgr := pair_set HG2.out (.int .i64 n) (.slice ao' L.length cap')
      obtain ⟨r0, r1, -⟩ := pair_cells hgr
      refine bodyPost_ret (v := .agg #[.int .i64 n, .slice ao' L.length cap']) (by simp [results, Try.results10, go_sem, r0, r1]) rfl ?_
      refine ⟨_, rfl, ?_, (HB.out.setCell (by simp) _).setCell (by simp) _⟩
      rw [← HLE.out]
      exact HROW.out.set2 (by omega) _ _

end Go.Proofs.Ytdhaaodalchpkaa

/-
  Layer 15: the graph that came in; one answer of program and document.
-/
namespace Go.Proofs.Ytdhaaodalchpkaa
open Go.RowKit Go.Sort Go.Maps

/-- The graph that came in: its edges, and the block that holds it. -/
structure Gr15 (w : World) (n : Int) (ao : Option Addr) (ca : Nat) (es : List (Int × Int)) (W : World) : Prop where
  at_ : EdgesAt w ao es
  low : Below w.heap.size w W
  box : W.heap[w.heap.size]? = some (.cells #[.int .i64 n, .slice ao es.length ca] 24 (0, 0))

section
variable {w W W' : World} {n : Int} {ao : Option Addr} {ca : Nat} {es : List (Int × Int)}
theorem Gr15.start (h : EdgesAt w ao es) : Gr15 w n ao ca es (w.alloc (.cells #[.int .i64 n, .slice ao es.length ca] 24)) := ⟨h, (Below.refl _ _).alloc (Nat.le_refl _) _, heap_alloc_new w _⟩
theorem Gr15.later (h : Gr15 w n ao ca es W) (hb : Below W.heap.size W W') : Gr15 w n ao ca es W' := ⟨h.at_, h.low.trans (hb.mono h.low.size), (hb.block _ (lt_of_block h.box)).trans h.box⟩
theorem Gr15.edges (h : Gr15 w n ao ca es W) : EdgesAt W ao es := h.at_.later h.low
theorem Gr15.cells (h : Gr15 w n ao ca es W) : W.cell? ⟨w.heap.size, 0, none⟩ = some (.int .i64 n) ∧ W.cell? ⟨w.heap.size, 1, none⟩ = some (.slice ao es.length ca) := by
  obtain ⟨x0, x1, -⟩ := pair_cells h.box
  exact ⟨x0, x1⟩
theorem Gr15.copy (h : Gr15 w n ao ca es W) (hl : es.length * 16 ≤ 140737488355328) : Calls Try.prog 10 #[.agg #[.int .i64 n, .slice ao es.length ca]] W fun e w' => ∃ a c, e = .returned (.agg #[.int .i64 n, .slice a es.length c]) ∧ EdgesAt w' a es ∧ Below W.heap.size W w' := (rcopy_any n ao ca es W h.edges hl).mono (by
  rintro e w' ⟨v, rfl, h1, h2⟩
  obtain ⟨a, c, rfl, _, _, h3, _⟩ := h1.form
  exact ⟨a, c, rfl, h3, h2⟩)
end

namespace Ku
open Classical in
/-- What Chains answers. -/
noncomputable def kc (n : Int) (es : List (Int × Int)) : List (List Int) × Int := if h : Si.Val n es then (rows es h es.length, 0) else ([], 1)
def KcP (r : List (List Int) × Int) (w : World) (e : Ending) (w' : World) : Prop := ∃ a c, e = .returned (.tuple #[.slice a r.1.length c, .int .i64 r.2]) ∧ SeesL w' (.slice a r.1.length c) r.1 ∧ Below w.heap.size w w'
theorem sees_nil (w : World) : SeesL w (.slice none 0 0) [] := ⟨none, 0, rfl, fun k l h => by simp at h⟩
theorem kc_of {n : Int} {es : List (Int × Int)} {w w' : World} {e : Ending} (h : ChainsP n es w e w') : KcP (kc n es) w e w' := by
  obtain ⟨hc, hb⟩ := h
  unfold kc
  rcases hc with ⟨hv, rfl⟩ | ⟨hv, v, us, rfl, hr⟩
  · have hn : ¬ Si.Val n es := fun h => by rw [Si.valid_iff.2 h] at hv; cases hv
    rw [dif_neg hn]
    exact ⟨none, 0, rfl, sees_nil _, hb⟩
  · rw [dif_pos hv]
    obtain ⟨a, c, rfl⟩ := row_shape hr
    exact ⟨a, c, rfl, sees_rows hr, hb⟩
theorem kc_small (n : Int) (es : List (Int × Int)) : (kc n es).1.length ≤ 4611686018427387904 ∧ ∀ l ∈ (kc n es).1, l.length ≤ 4611686018427387904 := by
  unfold kc
  by_cases hv : Si.Val n es
  · rw [dif_pos hv]
    have h := rows_small hv
    exact ⟨by have := h.1; show (rows es hv es.length).length ≤ _; omega, fun l hl => by have := (h.2 l hl).2.1; omega⟩
  · rw [dif_neg hv]
    exact ⟨by simp, fun l hl => by simp at hl⟩

open Classical in
/-- What Recognise answers. -/
noncomputable def kr (n : Int) (es : List (Int × Int)) : Int × List Int × List (List Int) × Bool × Int :=
  if h : Si.Val n es then (match recA (rows es h es.length) es n.toNat with | none => (0, [], [], false, 0) | some (kd, br, ps) => (kd, br, ps, true, 0)) else (0, [], [], false, 1)
def KrP (r : Int × List Int × List (List Int) × Bool × Int) (w : World) (e : Ending) (w' : World) : Prop :=
  ∃ a1 c1 a2 c2, e = .returned (.tuple #[.agg #[.int .i64 r.1, .slice a1 r.2.1.length c1, .slice a2 r.2.2.1.length c2], .bool r.2.2.2.1, .int .i64 r.2.2.2.2]) ∧ IntsAt w' a1 r.2.1 ∧ SeesL w' (.slice a2 r.2.2.1.length c2) r.2.2.1 ∧ Below w.heap.size w w'
theorem ints_nil (w : World) : IntsAt w none [] := fun j x h => by simp at h
theorem kr_no {n : Int} {es : List (Int × Int)} (h : Si.valid n es = false) : kr n es = (0, [], [], false, 1) := by
  have hn : ¬ Si.Val n es := fun h' => by rw [Si.valid_iff.2 h'] at h; cases h
  exact dif_neg hn
theorem kr_yes {m : Nat} {es : List (Int × Int)} (hv : Si.Val (m : Int) es) : kr (m : Int) es = (match recA (rows es hv es.length) es m with | none => (0, [], [], false, 0) | some (kd, br, ps) => (kd, br, ps, true, 0)) := by
  unfold kr
  rw [dif_pos hv, Int.toNat_natCast]
theorem kr_of {n : Int} {es : List (Int × Int)} {w w' : World} {e : Ending} (h : PRecP n es w e w') : KrP (kr n es) w e w' := by
  obtain ⟨hc, hb⟩ := h
  rcases hc with ⟨hv, rfl⟩ | ⟨m, hv, rfl, ha⟩
  · rw [kr_no hv]
    exact ⟨none, 0, none, 0, rfl, ints_nil _, sees_nil _, hb⟩
  · rw [kr_yes hv]
    cases hr : recA (rows es hv es.length) es m with
    | none =>
      rw [hr] at ha
      exact ⟨none, 0, none, 0, ha, ints_nil _, sees_nil _, hb⟩
    | some x =>
      obtain ⟨kd, br, ps⟩ := x
      rw [hr] at ha
      obtain ⟨bv, pv, vs, rfl, h1, h2, -⟩ := ha
      obtain ⟨ba, bc, rfl, h3, -⟩ := h1.form
      obtain ⟨pa, pc, rfl⟩ := row_shape h2
      exact ⟨ba, bc, pa, pc, rfl, h3, sees_rows h2, hb⟩
theorem kr_of' {n : Int} {es : List (Int × Int)} {w w' : World} {e : Ending} (h : RecP n es w e w') : KrP (kr n es) w e w' := by
  obtain ⟨hc, hb⟩ := recP_ans h
  rcases hc with ⟨hv, rfl⟩ | ⟨m, hv, rfl, ha⟩
  · rw [kr_no hv]
    exact ⟨none, 0, none, 0, rfl, ints_nil _, sees_nil _, hb⟩
  · rw [kr_yes hv]
    cases hr : recA (rows es hv es.length) es m with
    | none =>
      rw [hr] at ha
      exact ⟨none, 0, none, 0, ha, ints_nil _, sees_nil _, hb⟩
    | some x =>
      obtain ⟨kd, br, ps⟩ := x
      rw [hr] at ha
      obtain ⟨v1, v2, rfl, ⟨a1, c1, rfl, h1⟩, -, h2⟩ := ha
      obtain ⟨a2, c2, rfl, h3⟩ := id h2
      exact ⟨a1, c1, a2, c2, rfl, h1, h2.sees, hb⟩
end Ku
theorem pchains_is (n : Int) (ao : Option Addr) (cap : Nat) (es : List (Int × Int)) (w : World) (he : EdgesAt w ao es) (hl : es.length ≤ 4611686018427387904) :
    Calls Try.prog 9 #[.agg #[.int .i64 n, .slice ao es.length cap]] w (Ku.KcP (Ku.kc n es) w) := (pchains_any n ao cap es w he hl).mono fun _ _ h => Ku.kc_of h
theorem dchains_is (n : Int) (ao : Option Addr) (cap : Nat) (es : List (Int × Int)) (w : World) (he : EdgesAt w ao es) (hl : es.length ≤ 4611686018427387904) :
    Calls Try.prog 11 #[.agg #[.int .i64 n, .slice ao es.length cap]] w (Ku.KcP (Ku.kc n es) w) := (kchains_any n ao cap es w he hl).mono fun _ _ h => Ku.kc_of h
theorem precognise_is (n : Int) (ao : Option Addr) (cap : Nat) (es : List (Int × Int)) (w : World) (he : EdgesAt w ao es) (hl : es.length ≤ 4611686018427387904) :
    Calls Try.prog 13 #[.agg #[.int .i64 n, .slice ao es.length cap]] w (Ku.KrP (Ku.kr n es) w) := (precognise_any n ao cap es w he hl).mono fun _ _ h => Ku.kr_of h
end Go.Proofs.Ytdhaaodalchpkaa
