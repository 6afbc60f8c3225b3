import Derived.Test.YtodlejemkihjnaaDoorMg10
import Derived.Test.YtodlejemkihjnaaDoorMg04
import Derived.ArgAppend
import Derived.Deep.DeepAppendRoom
import Derived.Test.YtodlejemkihjnaaDoorMg09
import Derived.Test.YtodlejemkihjnaaDoorMg01
import Derived.Deep.QuietTactic
import Derived.BigQuiet
/-
  A copy of a list of ints, run: the empty list lies in a block of any world.
-/
namespace Go.Proofs.YtodlejemkihjnaaDoor
open Go.RowKit

/-- 'append([]int{}, xs...)', run: the empty list lies in block b. -/
theorem run_copyI (ty : TypeId) (W : World) (b : Nat) (ao : Option Addr) (n ca : Nat) (l : List Int) (hb : W.heap[b]? = some (.cells #[] 3 (0, 0))) (hr : Lst W ao n ca l) (hn : n ≤ 17592186043904) :
    ∃ g c w', (Builtin.append_ #[39, 39] ty #[.slice (some ⟨b, 0, none⟩) 0 0, .slice ao n ca]).run Tryd.prog W = .ok (.slice (some ⟨g, 0, none⟩) n c) w' ∧ (g = b ∨ W.heap.size ≤ g) ∧ (∀ B, B ≤ b → OwnZ w' B (.slice (some ⟨g, 0, none⟩) n c) l) ∧ g < w'.heap.size ∧ Below W.heap.size W w' := by
  obtain ⟨i0, hi, hz0, hz1, hz2⟩ := info_parts Tryd.infoNum
  have hlt := lt_of_block hb
  have hown0 : ∀ B, B ≤ b → W.ownsRow B 3 1 (.slice (some ⟨b, 0, none⟩) 0 0) 0 [] := fun B hB => ⟨rfl, .inr ⟨b, 0, #[], rfl, hB, hb, Nat.le_refl _, by unfold maxLen; omega, rfl, rfl⟩⟩
  by_cases h0 : n = 0
  · subst h0
    have hl : l = [] := List.length_eq_zero_iff.1 hr.len
    subst hl
    refine ⟨b, 0, W, ?_, .inl rfl, fun B hB => hown0 B hB, hlt, Below.refl _ _⟩
    cases ao with
    | none =>
      obtain ⟨_, rfl⟩ := hr.none rfl
      exact run_append_owned_none (P := Tryd.prog) (w := W) b 39 ty 3 i0 1 Tryd.underlying39 hi _ 0 [] (hown0 b (Nat.le_refl _))
    | some y =>
      have := run_append_room_cells (P := Tryd.prog) W 39 ty 3 i0 Tryd.underlying39 hi b 0 0 0 y 0 ca [] (by simp) (fun j u hj => by simp at hj) (fun u hu => by simp at hu) (Nat.le_refl _) (fun j hj => by simp at hj) (fun j hj => by simp at hj)
      rw [this]
      simp [World.setCells]
  · obtain ⟨y, hy⟩ : ∃ y, ao = some y := by
      cases ao with
      | none => exact absurd (hr.none rfl).1 h0
      | some y => exact ⟨y, rfl⟩
    subst hy
    obtain ⟨v', w', hrun, r1, r2⟩ := run_append_arg_grows (P := Tryd.prog) W 39 ty 3 i0 (.int .i64 0) 1 8 Tryd.underlying39 hi hz0 hz1 hz2 rfl (by decide) ⟨b, 0, none⟩ 0 0 [] rfl (fun j u hj => by simp at hj) y n ca (l.map (Value.int .i64)) (by rw [List.length_map, hr.len]; omega) (fun j u hj => by
      rw [List.getElem?_map] at hj
      cases hlj : l[j]? with
      | none => rw [hlj] at hj; cases hj
      | some z =>
        rw [hlj] at hj
        obtain rfl := Option.some.inj hj
        obtain ⟨b', o', e, hc⟩ := hr.ints j z hlj
        cases e
        have ea : ((⟨b', o', none⟩ : Addr).add j) = ⟨b', o' + j, none⟩ := by
          by_cases h0 : j = 0 <;> simp [Addr.add, h0]
        rw [ea]
        exact hc) (by omega) (by unfold maxLen; omega) (by omega)
    rw [Nat.zero_add, List.nil_append] at r1
    obtain ⟨k, hk⟩ : ∃ k, n = k + 1 := ⟨n - 1, by omega⟩
    rw [hk] at r1
    obtain ⟨g, c, rfl⟩ := own_succ r1
    rw [← hk] at r1 hrun
    have hg := World.ownsRow.lt r1 g rfl
    refine ⟨g, c, w', hrun, .inr hg.1, fun B hB => ?_, hg.2, ⟨r2.os, r2.tape, r2.output, r2.size, fun k hk => r2.block k hk (by simp)⟩⟩
    have : OwnZ w' W.heap.size (.slice (some ⟨g, 0, none⟩) n c) l := by
      unfold OwnZ
      rw [hr.len]
      exact r1
    exact this.lower (by omega)

end Go.Proofs.YtodlejemkihjnaaDoor

/-
  Lists that can be read; what may be written.
-/
namespace Go.Proofs.YtodlejemkihjnaaDoor
open Go.RowKit

namespace Ce
/-- Lists that can be read. -/
def ListsAt (w : World) (ao : Option Addr) (ls : List (List Int)) : Prop := ∀ (k : Nat) (l : List Int), ls[k]? = some l → ∃ b o xa xc, ao = some ⟨b, o, none⟩ ∧ w.cell? ⟨b, o + k, none⟩ = some (.slice xa l.length xc) ∧ IntsAt w xa l
theorem ListsAt.later {w w' : World} {ao : Option Addr} {ls : List (List Int)} (h : ListsAt w ao ls) (hb : Below w.heap.size w w') : ListsAt w' ao ls := fun k l hl => by
  obtain ⟨b, o, xa, xc, e, hc, hs⟩ := h k l hl
  exact ⟨b, o, xa, xc, e, (hb.cell (p := ⟨b, o + k, none⟩) (block_lt_of_cell hc)).trans hc, hs.later hb⟩
/-- The lists may be written. -/
def okLs (ls : List (List Int)) : Prop := (∀ l ∈ ls, okL l) ∧ ls.length ≤ 1048576
/-- The edges may be written. -/
def okEs (es : List (Int × Int)) : Prop := okE es ∧ es.length ≤ 4194304
/-- A yes or a no, as p is so. -/
def Says (e : Ending) (p : Prop) : Prop := ∃ t, e = .returned (.bool t) ∧ (t = true ↔ p)
theorem Says.yes {p : Prop} (h : p) : Says (.returned (.bool true)) p := ⟨true, rfl, iff_of_true rfl h⟩
theorem Says.no {p : Prop} (h : ¬ p) : Says (.returned (.bool false)) p := ⟨false, rfl, iff_of_false Bool.false_ne_true h⟩
end Ce
end Go.Proofs.YtodlejemkihjnaaDoor
