/-
  Layer 15: the graph that came in; one answer of program and document.
-/
import Derived.Test.YtdhaaodalchpkabKwE
import Derived.Test.YtdhaaodalchpkabMgG
import Derived.Test.YtdhaaodalchpkabSiRCp
namespace Go.Proofs.Ytdhaaodalchpkab
open Go.RowKit Go.Sort Go.Maps

/-- The graph that came in: its edges, and the block that holds it. -/
structure Gr15 (w : World) (n : Int) (ao : Option Addr) (ca : Nat) (es : List (Int × Int)) (W : World) : Prop where
  at_ : EdgesAt w ao es
  low : Below w.heap.size w W
  box : W.heap[w.heap.size]? = some (.cells #[.int .i64 n, .slice ao es.length ca] 24 (0, 0))

section
variable {w W W' : World} {n : Int} {ao : Option Addr} {ca : Nat} {es : List (Int × Int)}
theorem Gr15.start (h : EdgesAt w ao es) : Gr15 w n ao ca es (w.alloc (.cells #[.int .i64 n, .slice ao es.length ca] 24)) := ⟨h, (Below.refl _ _).alloc (Nat.le_refl _) _, heap_alloc_new w _⟩
theorem Gr15.later (h : Gr15 w n ao ca es W) (hb : Below W.heap.size W W') : Gr15 w n ao ca es W' := ⟨h.at_, h.low.trans (hb.mono h.low.size), (hb.block _ (lt_of_block h.box)).trans h.box⟩
theorem Gr15.edges (h : Gr15 w n ao ca es W) : EdgesAt W ao es := h.at_.later h.low
theorem Gr15.cells (h : Gr15 w n ao ca es W) : W.cell? ⟨w.heap.size, 0, none⟩ = some (.int .i64 n) ∧ W.cell? ⟨w.heap.size, 1, none⟩ = some (.slice ao es.length ca) := by
  obtain ⟨x0, x1, -⟩ := pair_cells h.box
  exact ⟨x0, x1⟩
theorem Gr15.copy (h : Gr15 w n ao ca es W) (hl : es.length * 16 ≤ 140737488355328) : Calls Try.prog 5 #[.agg #[.int .i64 n, .slice ao es.length ca]] W fun e w' => ∃ a c, e = .returned (.agg #[.int .i64 n, .slice a es.length c]) ∧ EdgesAt w' a es ∧ Below W.heap.size W w' := (rcopy_any n ao ca es W h.edges hl).mono (by
  rintro e w' ⟨v, rfl, h1, h2⟩
  obtain ⟨a, c, rfl, _, _, h3, _⟩ := h1.form
  exact ⟨a, c, rfl, h3, h2⟩)
end

namespace Ku
open Classical in
/-- What Chains answers. -/
noncomputable def kc (n : Int) (es : List (Int × Int)) : List (List Int) × Int := if h : Si.Val n es then (rows es h es.length, 0) else ([], 1)
def KcP (r : List (List Int) × Int) (w : World) (e : Ending) (w' : World) : Prop := ∃ a c, e = .returned (.tuple #[.slice a r.1.length c, .int .i64 r.2]) ∧ SeesL w' (.slice a r.1.length c) r.1 ∧ Below w.heap.size w w'
theorem sees_nil (w : World) : SeesL w (.slice none 0 0) [] := ⟨none, 0, rfl, fun k l h => by simp at h⟩
theorem kc_of {n : Int} {es : List (Int × Int)} {w w' : World} {e : Ending} (h : ChainsP n es w e w') : KcP (kc n es) w e w' := by
  obtain ⟨hc, hb⟩ := h
  unfold kc
  rcases hc with ⟨hv, rfl⟩ | ⟨hv, v, us, rfl, hr⟩
  · have hn : ¬ Si.Val n es := fun h => by rw [Si.valid_iff.2 h] at hv; cases hv
    rw [dif_neg hn]
    exact ⟨none, 0, rfl, sees_nil _, hb⟩
  · rw [dif_pos hv]
    obtain ⟨a, c, rfl⟩ := row_shape hr
    exact ⟨a, c, rfl, sees_rows hr, hb⟩
theorem kc_small (n : Int) (es : List (Int × Int)) : (kc n es).1.length ≤ 4611686018427387904 ∧ ∀ l ∈ (kc n es).1, l.length ≤ 4611686018427387904 := by
  unfold kc
  by_cases hv : Si.Val n es
  · rw [dif_pos hv]
    have h := rows_small hv
    exact ⟨by have := h.1; show (rows es hv es.length).length ≤ _; omega, fun l hl => by have := (h.2 l hl).2.1; omega⟩
  · rw [dif_neg hv]
    exact ⟨by simp, fun l hl => by simp at hl⟩

open Classical in
/-- What Recognise answers. -/
noncomputable def kr (n : Int) (es : List (Int × Int)) : Int × List Int × List (List Int) × Bool × Int :=
  if h : Si.Val n es then (match recA (rows es h es.length) es n.toNat with | none => (0, [], [], false, 0) | some (kd, br, ps) => (kd, br, ps, true, 0)) else (0, [], [], false, 1)
def KrP (r : Int × List Int × List (List Int) × Bool × Int) (w : World) (e : Ending) (w' : World) : Prop :=
  ∃ a1 c1 a2 c2, e = .returned (.tuple #[.agg #[.int .i64 r.1, .slice a1 r.2.1.length c1, .slice a2 r.2.2.1.length c2], .bool r.2.2.2.1, .int .i64 r.2.2.2.2]) ∧ IntsAt w' a1 r.2.1 ∧ SeesL w' (.slice a2 r.2.2.1.length c2) r.2.2.1 ∧ Below w.heap.size w w'
theorem ints_nil (w : World) : IntsAt w none [] := fun j x h => by simp at h
theorem kr_no {n : Int} {es : List (Int × Int)} (h : Si.valid n es = false) : kr n es = (0, [], [], false, 1) := by
  have hn : ¬ Si.Val n es := fun h' => by rw [Si.valid_iff.2 h'] at h; cases h
  exact dif_neg hn
theorem kr_yes {m : Nat} {es : List (Int × Int)} (hv : Si.Val (m : Int) es) : kr (m : Int) es = (match recA (rows es hv es.length) es m with | none => (0, [], [], false, 0) | some (kd, br, ps) => (kd, br, ps, true, 0)) := by
  unfold kr
  rw [dif_pos hv, Int.toNat_natCast]
theorem kr_of {n : Int} {es : List (Int × Int)} {w w' : World} {e : Ending} (h : PRecP n es w e w') : KrP (kr n es) w e w' := by
  obtain ⟨hc, hb⟩ := h
  rcases hc with ⟨hv, rfl⟩ | ⟨m, hv, rfl, ha⟩
  · rw [kr_no hv]
    exact ⟨none, 0, none, 0, rfl, ints_nil _, sees_nil _, hb⟩
  · rw [kr_yes hv]
    cases hr : recA (rows es hv es.length) es m with
    | none =>
      rw [hr] at ha
      exact ⟨none, 0, none, 0, ha, ints_nil _, sees_nil _, hb⟩
    | some x =>
      obtain ⟨kd, br, ps⟩ := x
      rw [hr] at ha
      obtain ⟨bv, pv, vs, rfl, h1, h2, -⟩ := ha
      obtain ⟨ba, bc, rfl, h3, -⟩ := h1.form
      obtain ⟨pa, pc, rfl⟩ := row_shape h2
      exact ⟨ba, bc, pa, pc, rfl, h3, sees_rows h2, hb⟩
theorem kr_of' {n : Int} {es : List (Int × Int)} {w w' : World} {e : Ending} (h : RecP n es w e w') : KrP (kr n es) w e w' := by
  obtain ⟨hc, hb⟩ := recP_ans h
  rcases hc with ⟨hv, rfl⟩ | ⟨m, hv, rfl, ha⟩
  · rw [kr_no hv]
    exact ⟨none, 0, none, 0, rfl, ints_nil _, sees_nil _, hb⟩
  · rw [kr_yes hv]
    cases hr : recA (rows es hv es.length) es m with
    | none =>
      rw [hr] at ha
      exact ⟨none, 0, none, 0, ha, ints_nil _, sees_nil _, hb⟩
    | some x =>
      obtain ⟨kd, br, ps⟩ := x
      rw [hr] at ha
      obtain ⟨v1, v2, rfl, ⟨a1, c1, rfl, h1⟩, -, h2⟩ := ha
      obtain ⟨a2, c2, rfl, h3⟩ := id h2
      exact ⟨a1, c1, a2, c2, rfl, h1, h2.sees, hb⟩
end Ku
theorem pchains_is (n : Int) (ao : Option Addr) (cap : Nat) (es : List (Int × Int)) (w : World) (he : EdgesAt w ao es) (hl : es.length ≤ 4611686018427387904) :
    Calls Try.prog 6 #[.agg #[.int .i64 n, .slice ao es.length cap]] w (Ku.KcP (Ku.kc n es) w) := (pchains_any n ao cap es w he hl).mono fun _ _ h => Ku.kc_of h
theorem dchains_is (n : Int) (ao : Option Addr) (cap : Nat) (es : List (Int × Int)) (w : World) (he : EdgesAt w ao es) (hl : es.length ≤ 4611686018427387904) :
    Calls Try.prog 9 #[.agg #[.int .i64 n, .slice ao es.length cap]] w (Ku.KcP (Ku.kc n es) w) := (kchains_any n ao cap es w he hl).mono fun _ _ h => Ku.kc_of h
theorem precognise_is (n : Int) (ao : Option Addr) (cap : Nat) (es : List (Int × Int)) (w : World) (he : EdgesAt w ao es) (hl : es.length ≤ 4611686018427387904) :
    Calls Try.prog 7 #[.agg #[.int .i64 n, .slice ao es.length cap]] w (Ku.KrP (Ku.kr n es) w) := (precognise_any n ao cap es w he hl).mono fun _ _ h => Ku.kr_of h
end Go.Proofs.Ytdhaaodalchpkab
