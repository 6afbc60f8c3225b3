/-
  Lists of ints of one's own.
-/
import Derived.Test.YtponmjipbcmlhaaCoMem
import Derived.Test.YtponmjipbcmlhaaIntsA
namespace Go.Proofs.Ytponmjipbcmlhaa
open Go.RowKit

/-- v is a list of the ints l, in memory of its own, laid since block B. -/
def OwnZ (w : World) (B : Nat) (v : Value) (l : List Int) : Prop := w.ownsRow B 3 1 v l.length (l.map (Value.int .i64))

section
variable {w w' : World} {B : Nat} {v : Value} {l : List Int}
theorem OwnZ.nil (w : World) (B : Nat) : OwnZ w B (.slice none 0 0) [] := World.ownsRow_nil _ _ _ _
theorem OwnZ.form (h : OwnZ w B v l) : ∃ ao cap, v = .slice ao l.length cap ∧ IntsAt w ao l ∧ (∀ x, ao = some x → B ≤ x.block ∧ x.block < w.heap.size) := by
  rcases h.2 with ⟨rfl, h0⟩ | ⟨g, cap, cur, rfl, hB, hh, _⟩
  · refine ⟨none, 0, by rw [h0], fun j x hj => ?_, fun x hx => by cases hx⟩
    have := (List.getElem?_eq_some_iff.1 hj).1
    omega
  · refine ⟨_, _, rfl, fun j x hj => ?_, fun x hx => by cases hx; exact ⟨hB, lt_of_block hh⟩⟩
    refine ⟨g, 0, rfl, ?_⟩
    have := World.ownsRow.cells h (g := g) rfl j (.int .i64 x) (by rw [List.getElem?_map, hj]; rfl)
    have e : ((⟨g, 0, none⟩ : Addr).add j) = ⟨g, 0 + j, none⟩ := by
      by_cases h0 : j = 0 <;> simp [Addr.add, h0]
    rw [e] at this
    exact this
theorem OwnZ.same (h : OwnZ w B v l) (hb : ∀ g, v.ownBlock = some g → g < w.heap.size → w'.heap[g]? = w.heap[g]?) : OwnZ w' B v l := by
  refine ⟨h.1, ?_⟩
  rcases h.2 with h | ⟨g, cap, cur, e1, hgB, hh, hr⟩
  · exact .inl h
  · exact .inr ⟨g, cap, cur, e1, hgB, (hb g (by rw [e1]; rfl) (lt_of_block hh)).trans hh, hr⟩
theorem OwnZ.later (h : OwnZ w B v l) (hb : Below w.heap.size w w') : OwnZ w' B v l := h.same fun g _ hl => hb.block g hl
theorem OwnZ.lower {B' : Nat} (h : OwnZ w B v l) (hB : B' ≤ B) : OwnZ w B' v l := by
  refine ⟨h.1, ?_⟩
  rcases h.2 with h | ⟨g, cap, cur, e1, hgB, hr⟩
  · exact .inl h
  · exact .inr ⟨g, cap, cur, e1, Nat.le_trans hB hgB, hr⟩
theorem IntsBlk.own {g n : Nat} (h : IntsBlk w g l) (hB : B ≤ g) (hl : l.length = n) (hm : n ≤ 8388608) : OwnZ w B (.slice (some ⟨g, 0, none⟩) n n) l := by
  subst hl
  refine ⟨by simp, .inr ⟨g, _, _, rfl, hB, h, Nat.le_refl _, by unfold maxLen; omega, by simp, ?_⟩⟩
  rw [List.take_of_length_le (by simp)]
end

end Go.Proofs.Ytponmjipbcmlhaa
