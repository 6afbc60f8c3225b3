/-
  A copy of a list of edges, run: the empty list lies in a block of any world.
-/
import Derived.Test.YtfjgmbimapkabaaDoorCpN
import Derived.Test.YtfjgmbimapkabaaDoorMg09
import Derived.ArgAppend
import Derived.Deep.DeepAppendRoom
namespace Go.Proofs.YtfjgmbimapkabaaDoor
open Go.RowKit

/-- 'append([]api.Edge{}, es...)', run: the empty list lies in block b. -/
theorem run_copyE (ty : TypeId) (W : World) (b : Nat) (ao : Option Addr) (n ca : Nat) (es : List (Int × Int)) (hb : W.heap[b]? = some (.cells #[] 55 (0, 0))) (he : EdgesAt W ao es) (hl : es.length = n) (h0 : ao = none → ca = 0) (hn : n ≤ 8796093022000) :
    ∃ g c w', (Builtin.append_ #[25, 25] ty #[.slice (some ⟨b, 0, none⟩) 0 0, .slice ao n ca]).run Tryd.prog W = .ok (.slice (some ⟨g, 0, none⟩) n c) w' ∧ (g = b ∨ W.heap.size ≤ g) ∧ (∀ B, B ≤ b → OwnE w' B (.slice (some ⟨g, 0, none⟩) n c) es) ∧ g < w'.heap.size ∧ Below W.heap.size W w' := by
  obtain ⟨i0, hi, hz0, hz1, hz2⟩ := info_parts Tryd.infoEdge
  have hlt := lt_of_block hb
  have hown0 : ∀ B, B ≤ b → W.ownsRow B 55 2 (.slice (some ⟨b, 0, none⟩) 0 0) 0 [] := fun B hB => ⟨rfl, .inr ⟨b, 0, #[], rfl, hB, hb, Nat.le_refl _, by unfold maxLen; omega, rfl, rfl⟩⟩
  by_cases hn0 : n = 0
  · subst hn0
    have hl : es = [] := List.length_eq_zero_iff.1 hl
    subst hl
    refine ⟨b, 0, W, ?_, .inl rfl, fun B hB => hown0 B hB, hlt, Below.refl _ _⟩
    cases ao with
    | none =>
      obtain rfl := h0 rfl
      exact run_append_owned_none (P := Tryd.prog) (w := W) b 25 ty 55 i0 2 Tryd.underlying25 hi _ 0 [] (hown0 b (Nat.le_refl _))
    | some y =>
      have := run_append_room_cells (P := Tryd.prog) W 25 ty 55 i0 Tryd.underlying25 hi b 0 0 0 y 0 ca [] (by simp) (fun j u hj => by simp at hj) (fun u hu => by simp at hu) (Nat.le_refl _) (fun j hj => by simp at hj) (fun j hj => by simp at hj)
      rw [this]
      simp [World.setCells]
  · obtain ⟨y, hy⟩ : ∃ y, ao = some y := by
      cases ao with
      | none =>
        have hp : es[0]? = some es[0] := List.getElem?_eq_getElem (by omega)
        obtain ⟨_, _, e, -⟩ := he 0 _ hp
        cases e
      | some y => exact ⟨y, rfl⟩
    subst hy
    obtain ⟨v', w', hrun, r1, r2⟩ := run_append_arg_grows (P := Tryd.prog) W 25 ty 55 i0 (.agg #[.int .i64 0, .int .i64 0]) 2 16 Tryd.underlying25 hi hz0 hz1 hz2 rfl (by decide) ⟨b, 0, none⟩ 0 0 [] rfl (fun j u hj => by simp at hj) y n ca (flatE es) (by rw [flatE_length, hl]) (edge_news' he) (by omega) (by unfold maxLen; omega) (by omega)
    rw [Nat.zero_add, List.nil_append] at r1
    obtain ⟨k, hk⟩ : ∃ k, n = k + 1 := ⟨n - 1, by omega⟩
    rw [hk] at r1
    obtain ⟨g, c, rfl⟩ := own_succ r1
    rw [← hk] at r1 hrun
    have hg := World.ownsRow.lt r1 g rfl
    refine ⟨g, c, w', hrun, .inr hg.1, fun B hB => ?_, hg.2, ⟨r2.os, r2.tape, r2.output, r2.size, fun k hk => r2.block k hk (by simp)⟩⟩
    have : OwnE w' W.heap.size (.slice (some ⟨g, 0, none⟩) n c) es := by
      unfold OwnE
      rw [hl]
      exact r1
    exact this.lower (by omega)
end Go.Proofs.YtfjgmbimapkabaaDoor
