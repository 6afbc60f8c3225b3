/-
  Copies of bytes of the call's own, and what they are as texts.
-/
import Derived.Test.YtkjmnfhpikoaaaaDoorPaWritten
namespace Go.Proofs.YtkjmnfhpikoaaaaDoor
open Go.RowKit

theorem OwnB.text {w : World} {B : Nat} {v : Value} {L : List UInt8} (h : OwnB w B v L) : ∃ g cap, v = .slice (some ⟨g, 0, none⟩) L.length cap ∧ L.length ≤ cap ∧ B ≤ g ∧ g < w.heap.size ∧ HasText w (some ⟨g, 0, none⟩) L.length (Nu.ofBytes L) := by
  obtain ⟨g, cap, e, hl, hB, hg, hc⟩ := h.cells
  refine ⟨g, cap, e, hl, hB, hg, fun i hi => ⟨?_, g, 0, rfl, ?_⟩⟩
  · unfold Nu.ofBytes
    have := (L.getD i 0).toNat_lt
    omega
  · rw [Nat.zero_add, hc i hi]
    simp [Nu.ofBytes, List.getD_eq_getElem?_getD, hi]

/-- 'append([]byte{}, b...)', b bytes that lie at the beginning of block g. -/
theorem wpList_copyB {ops : Array Oper} {rest : List Oper} {o : Oper} {a : Act} {Q : Exit → Act → World → Prop} (hgd : o.guard = none) (s x : Operand)
    (ho : o.op = .call { callee := .builtin .append, args := #[s, x], argTypes := #[24, 24] }) (W : World) (g len cap : Nat) (L : List UInt8) (hs : a.eval s = .slice (some ⟨W.heap.size, 0, none⟩) 0 0) (hx : a.eval x = .slice (some ⟨g, 0, none⟩) len cap) (hlen : len = L.length)
    (hc : ∀ j (hj : j < L.length), W.cell? ⟨g, j, none⟩ = some (.int .u8 (L[j].toNat : Int))) (hl : L.length ≤ 140737488355328)
    (h : ∀ v' w', OwnB w' W.heap.size v' L → Below W.heap.size W w' → wpList Tryd.prog ops Q rest (a.put o.dst v') w') :
    wpList Tryd.prog ops Q (o :: rest) a (W.alloc (.cells #[] 5)) := by
  obtain ⟨i0, hi, hz0, hz1, hz2⟩ := info_parts (show (Tryd.prog.info? 5).map (fun i => (i.zero, i.size, i.bytes)) = some (some (.int .u8 0), 1, 1) by kernel_rfl)
  have hown0 : (W.alloc (.cells #[] 5)).ownsRow W.heap.size 5 1 (.slice (some ⟨W.heap.size, 0, none⟩) 0 0) 0 [] := World.ownsRow_made W #[] 0 (Nat.le_refl _) (Nat.zero_le _) rfl
  have hb0 : Below W.heap.size W (W.alloc (.cells #[] 5)) := (Below.refl _ _).alloc (Nat.le_refl _) _
  have hbl : (Lib.byteCells L).length = L.length := by simp [Lib.byteCells]
  subst hlen
  refine wpList_append_own _ hgd s x 24 ho W.heap.size 5 i0 (.int .u8 0) 1 1 Tryd.underlying24 hi hz0 hz1 hz2 rfl (by decide) _ 0 [] hs hown0 ⟨g, 0, none⟩ L.length cap (Lib.byteCells L) hx (by rw [hbl]; omega) ?_ ?_ (by unfold maxLen; omega) (by omega) (by simp) ?_
  · intro j u hj
    have hjl : j < L.length := by have := (List.getElem?_eq_some_iff.1 hj).1; omega
    rw [addr0]
    have := hc j hjl
    have e : u = .int .u8 (L[j].toNat : Int) := by
      simp [Lib.byteCells, hjl] at hj
      exact hj.symm
    rw [e]
    exact (World.grownBy_alloc W _ none).cell this (by simp)
  · intro u hu
    simp only [Lib.byteCells, List.mem_map] at hu
    obtain ⟨b, _, rfl⟩ := hu
    rfl
  · intro v' w' hown' hg hiff
    rw [Nat.zero_add, List.nil_append] at hown'
    have hbw : Below W.heap.size W w' := hb0.grown hg (by simp) (fun q hq => by cases hq; exact Nat.le_refl _)
    rcases hown'.2 with ⟨hnil, _⟩ | ⟨gb, c, cur, rfl, hgb, hh, hlc, hcm, hcs, ht⟩
    · have := (hiff.1 hnil).1
      cases this
    · exact h _ _ ⟨gb, c, cur, (0, 0), rfl, hgb, hh, .inl rfl, hlc, hcm, by omega, by simpa using ht⟩ hbw

end Go.Proofs.YtkjmnfhpikoaaaaDoor
