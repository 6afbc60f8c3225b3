/-
  An Adj in memory.
-/
import Derived.Test.YtponmjipbcmlhaaCsA
import Derived.Test.YtponmjipbcmlhaaSiMem
import Derived.Test.YtponmjipbcmlhaaCoMem
namespace Go.Proofs.Ytponmjipbcmlhaa
open Go.RowKit

/-- A slice that is the whole of a block. -/
abbrev sl (g n : Nat) : Value := .slice (some ⟨g, 0, none⟩) n n

/-- Block p is an Adj over these blocks. -/
def AdjBlk (w : World) (p gd gs gh gp gt n M : Nat) : Prop := w.heap[p]? = some (.cells #[sl gd n, sl gs n, sl gh M, sl gp M, sl gt M] 81 (0, 0))

section
variable {w w' : World} {p gd gs gh gp gt n M : Nat}
theorem AdjBlk.lt (h : AdjBlk w p gd gs gh gp gt n M) : p < w.heap.size := lt_of_block h
theorem AdjBlk.later (h : AdjBlk w p gd gs gh gp gt n M) (hb : Below w.heap.size w w') : AdjBlk w' p gd gs gh gp gt n M := (hb.block p h.lt).trans h
theorem AdjBlk.other (h : AdjBlk w p gd gs gh gp gt n M) {b i : Nat} (hb : p ≠ b) (x : Value) : AdjBlk (w.setCell ⟨b, i, none⟩ x) p gd gs gh gp gt n M := (heap_setCell_other w ⟨b, i, none⟩ p x hb).trans h
theorem AdjBlk.wrote {S : Nat → Prop} (h : AdjBlk w p gd gs gh gp gt n M) (hw : Wrote S w w') (hp : ¬ S p) : AdjBlk w' p gd gs gh gp gt n M := (hw.block p h.lt hp).trans h
theorem AdjBlk.c0 (h : AdjBlk w p gd gs gh gp gt n M) : w.cell? ⟨p, 0, none⟩ = some (.slice (some ⟨gd, 0, none⟩) n n) := by unfold AdjBlk at h; simp [World.cell?, h]
theorem AdjBlk.c1 (h : AdjBlk w p gd gs gh gp gt n M) : w.cell? ⟨p, 1, none⟩ = some (.slice (some ⟨gs, 0, none⟩) n n) := by unfold AdjBlk at h; simp [World.cell?, h]
theorem AdjBlk.c2 (h : AdjBlk w p gd gs gh gp gt n M) : w.cell? ⟨p, 2, none⟩ = some (.slice (some ⟨gh, 0, none⟩) M M) := by unfold AdjBlk at h; simp [World.cell?, h]
theorem AdjBlk.c3 (h : AdjBlk w p gd gs gh gp gt n M) : w.cell? ⟨p, 3, none⟩ = some (.slice (some ⟨gp, 0, none⟩) M M) := by unfold AdjBlk at h; simp [World.cell?, h]
theorem AdjBlk.c4 (h : AdjBlk w p gd gs gh gp gt n M) : w.cell? ⟨p, 4, none⟩ = some (.slice (some ⟨gt, 0, none⟩) M M) := by unfold AdjBlk at h; simp [World.cell?, h]
end

end Go.Proofs.Ytponmjipbcmlhaa
