/-
  The document's own walk under way, in memory.
-/
import Derived.Test.YtponmjipbcmlhaaDfWalk
import Derived.Test.YtponmjipbcmlhaaCsROut
import Derived.Test.YtponmjipbcmlhaaCsRefs
namespace Go.Proofs.Ytponmjipbcmlhaa
open Go.RowKit Go.Sort

/-- Block g holds just these Booleans. -/
def BoolsBlk (w : World) (g : Nat) (l : List Bool) : Prop := w.heap[g]? = some (.cells (l.map Value.bool).toArray 4 (0, 0))

section
variable {w w' : World} {g : Nat} {l : List Bool}
theorem BoolsBlk.lt (h : BoolsBlk w g l) : g < w.heap.size := lt_of_block h
theorem BoolsBlk.cell (h : BoolsBlk w g l) {i : Nat} {x : Bool} (hx : l[i]? = some x) : w.cell? ⟨g, i, none⟩ = some (.bool x) := by
  unfold BoolsBlk at h
  simp [World.cell?, h, hx]
theorem BoolsBlk.free (h : BoolsBlk w g l) (i : Nat) : w.frozen? ⟨g, i, none⟩ = false := by
  unfold BoolsBlk at h
  simp [World.frozen?, h]
theorem BoolsBlk.set (h : BoolsBlk w g l) (i : Nat) (x : Bool) : BoolsBlk (w.setCell ⟨g, i, none⟩ (.bool x)) g (l.set i x) := by
  unfold BoolsBlk at h ⊢
  rw [heap_setCell_same w g i _ _ _ h]
  simp [List.map_set]
theorem BoolsBlk.later (h : BoolsBlk w g l) (hb : Below w.heap.size w w') : BoolsBlk w' g l := (hb.block g h.lt).trans h
theorem BoolsBlk.set_far {b i : Nat} (h : BoolsBlk w g l) (hf : g ≠ b) (x : Value) : BoolsBlk (w.setCell ⟨b, i, none⟩ x) g l := (blk_same hf x).trans h
end

namespace Df
/-- The heights as the document has them: 0 of what was not reached. -/
def rhei (s : St) : List Int := s.hei.map fun x => if x = -1 then 0 else x
/-- What was reached. -/
def rseen (s : St) : List Bool := s.hei.map fun x => x != -1
end Df

/-- The forest at F and what was seen, under way; laid since w0. -/
structure RW (w0 w : World) (F gp gh gr gs : Nat) (ov : Value) (n m : Nat) (P H O R : List Int) (S : List Bool) : Prop where
  bel : Below w0.heap.size w0 w
  blk : w.heap[F]? = some (.cells #[.slice (some ⟨gp, 0, none⟩) n n, .slice (some ⟨gh, 0, none⟩) n n, ov, .slice (some ⟨gr, 0, none⟩) m m] 28 (0, 0))
  ip : IntsBlk w gp P
  ih : IntsBlk w gh H
  ir : IntsBlk w gr R
  is : BoolsBlk w gs S
  ow : OwnZ w w0.heap.size ov O
  lo : w0.heap.size ≤ F ∧ w0.heap.size ≤ gp ∧ w0.heap.size ≤ gh ∧ w0.heap.size ≤ gr ∧ w0.heap.size ≤ gs
  ne : F ≠ gp ∧ F ≠ gh ∧ F ≠ gr ∧ F ≠ gs ∧ gp ≠ gh ∧ gp ≠ gr ∧ gp ≠ gs ∧ gh ≠ gr ∧ gh ≠ gs ∧ gr ≠ gs
  of_ : ov.ownBlock ≠ some F ∧ ov.ownBlock ≠ some gp ∧ ov.ownBlock ≠ some gh ∧ ov.ownBlock ≠ some gr ∧ ov.ownBlock ≠ some gs

/-- What a walk writes. -/
def WrS (F gp gh gr gs : Nat) (ov : Value) (b : Nat) : Prop := b = F ∨ b = gp ∨ b = gh ∨ b = gr ∨ b = gs ∨ ov.ownBlock = some b

section
variable {w0 w w' : World} {F gp gh gr gs : Nat} {ov : Value} {n m : Nat} {P H O R : List Int} {S : List Bool}

theorem RW.cells (h : RW w0 w F gp gh gr gs ov n m P H O R S) : w.cell? ⟨F, 0, none⟩ = some (.slice (some ⟨gp, 0, none⟩) n n) ∧ w.cell? ⟨F, 1, none⟩ = some (.slice (some ⟨gh, 0, none⟩) n n) ∧ w.cell? ⟨F, 2, none⟩ = some ov ∧ w.cell? ⟨F, 3, none⟩ = some (.slice (some ⟨gr, 0, none⟩) m m) ∧ ∀ i, w.frozen? ⟨F, i, none⟩ = false := four_cells h.blk
theorem RW.lt (h : RW w0 w F gp gh gr gs ov n m P H O R S) : F < w.heap.size := lt_of_block h.blk

theorem RW.later (h : RW w0 w F gp gh gr gs ov n m P H O R S) (hb : Below w.heap.size w w') : RW w0 w' F gp gh gr gs ov n m P H O R S :=
  ⟨h.bel.trans (hb.mono h.bel.size), (hb.block F h.lt).trans h.blk, h.ip.later hb, h.ih.later hb, h.ir.later hb, h.is.later hb, h.ow.later hb, h.lo, h.ne, h.of_⟩

theorem RW.setPar (h : RW w0 w F gp gh gr gs ov n m P H O R S) (v : Nat) (x : Int) : RW w0 (w.setCell ⟨gp, v, none⟩ (.int .i64 x)) F gp gh gr gs ov n m (P.set v x) H O R S := by
  obtain ⟨n1, n2, n3, n4, n5, n6, n7, n8, n9, n10⟩ := h.ne
  exact ⟨h.bel.setCell (p := ⟨gp, v, none⟩) h.lo.2.1 _, (blk_same n1 _).trans h.blk, h.ip.set v x, h.ih.set_far (Ne.symm n5) _, h.ir.set_far (Ne.symm n6) _, h.is.set_far (Ne.symm n7) _, h.ow.set_far h.of_.2.1 _, h.lo, h.ne, h.of_⟩
theorem RW.setHei (h : RW w0 w F gp gh gr gs ov n m P H O R S) (v : Nat) (x : Int) : RW w0 (w.setCell ⟨gh, v, none⟩ (.int .i64 x)) F gp gh gr gs ov n m P (H.set v x) O R S := by
  obtain ⟨n1, n2, n3, n4, n5, n6, n7, n8, n9, n10⟩ := h.ne
  exact ⟨h.bel.setCell (p := ⟨gh, v, none⟩) h.lo.2.2.1 _, (blk_same n2 _).trans h.blk, h.ip.set_far n5 _, h.ih.set v x, h.ir.set_far (Ne.symm n8) _, h.is.set_far (Ne.symm n9) _, h.ow.set_far h.of_.2.2.1 _, h.lo, h.ne, h.of_⟩
theorem RW.setOri (h : RW w0 w F gp gh gr gs ov n m P H O R S) (v : Nat) (x : Int) : RW w0 (w.setCell ⟨gr, v, none⟩ (.int .i64 x)) F gp gh gr gs ov n m P H O (R.set v x) S := by
  obtain ⟨n1, n2, n3, n4, n5, n6, n7, n8, n9, n10⟩ := h.ne
  exact ⟨h.bel.setCell (p := ⟨gr, v, none⟩) h.lo.2.2.2.1 _, (blk_same n3 _).trans h.blk, h.ip.set_far n6 _, h.ih.set_far n8 _, h.ir.set v x, h.is.set_far (Ne.symm n10) _, h.ow.set_far h.of_.2.2.2.1 _, h.lo, h.ne, h.of_⟩
theorem RW.setSeen (h : RW w0 w F gp gh gr gs ov n m P H O R S) (v : Nat) (x : Bool) : RW w0 (w.setCell ⟨gs, v, none⟩ (.bool x)) F gp gh gr gs ov n m P H O R (S.set v x) := by
  obtain ⟨n1, n2, n3, n4, n5, n6, n7, n8, n9, n10⟩ := h.ne
  exact ⟨h.bel.setCell (p := ⟨gs, v, none⟩) h.lo.2.2.2.2 _, (blk_same n4 _).trans h.blk, h.ip.set_far n7 _, h.ih.set_far n9 _, h.ir.set_far n10 _, h.is.set v x, h.ow.set_far h.of_.2.2.2.2 _, h.lo, h.ne, h.of_⟩

/-- Order is appended to. -/
theorem RW.putOrd {w1 : World} {ov' : Value} {x : Int} {tmp : Obj} (h : RW w0 w F gp gh gr gs ov n m P H O R S) (hown : OwnZ w1 w0.heap.size ov' (O ++ [x])) (hg : (w.alloc tmp).grownBy w1 ov.ownBlock) (hat : ov'.ownBlock = ov.ownBlock ∨ ov'.ownBlock = some (w.heap.size + 1)) :
    RW w0 (w1.setCell ⟨F, 2, none⟩ ov') F gp gh gr gs ov' n m P H (O ++ [x]) R S ∧ w1.cell? ⟨F, 2, none⟩ = some ov ∧ w1.frozen? ⟨F, 2, none⟩ = false ∧ Wrote (WrS F gp gh gr gs ov) w (w1.setCell ⟨F, 2, none⟩ ov') := by
  have keep : ∀ b, b < w.heap.size → ov.ownBlock ≠ some b → w1.heap[b]? = w.heap[b]? := fun b hb hne => by
    rw [hg.block b (by rw [World.size_alloc]; omega) (fun e => hne e.symm)]
    exact Below.heap_alloc w tmp b hb
  have hp1 := (keep F h.lt h.of_.1).trans h.blk
  have hsz : w.heap.size ≤ w1.heap.size := by
    have := hg.size
    rw [World.size_alloc] at this
    omega
  have hB := h.bel.size
  have hnew : ∀ b, b < w.heap.size → ov.ownBlock ≠ some b → ov'.ownBlock ≠ some b := fun b hb hne e => by
    rcases hat with e1 | e1
    · exact hne (e1.symm.trans e)
    · rw [e1] at e
      have := Option.some.inj e
      omega
  have hfp := hnew F h.lt h.of_.1
  obtain ⟨n1, n2, n3, n4, n5, n6, n7, n8, n9, n10⟩ := h.ne
  obtain ⟨k0, k1, k2, k3, kf⟩ := four_cells hp1
  refine ⟨⟨?_, ?_, ?_, ?_, ?_, ?_, ?_, h.lo, h.ne, ⟨hfp, hnew gp h.ip.lt h.of_.2.1, hnew gh h.ih.lt h.of_.2.2.1, hnew gr h.ir.lt h.of_.2.2.2.1, hnew gs h.is.lt h.of_.2.2.2.2⟩⟩, k2, kf 2, ?_⟩
  · have hb1 : Below w0.heap.size w w1 := ⟨hg.os, hg.tape, hg.output, hsz, fun k hk => keep k (by omega) (fun e => by have := (h.ow.lt e).1; omega)⟩
    exact (h.bel.trans hb1).setCell (p := ⟨F, 2, none⟩) h.lo.1 _
  · rw [heap_setCell_same w1 F 2 _ _ _ hp1]
    rfl
  · exact IntsBlk.set_far ((keep gp h.ip.lt h.of_.2.1).trans h.ip) (Ne.symm n1) _
  · exact IntsBlk.set_far ((keep gh h.ih.lt h.of_.2.2.1).trans h.ih) (Ne.symm n2) _
  · exact IntsBlk.set_far ((keep gr h.ir.lt h.of_.2.2.2.1).trans h.ir) (Ne.symm n3) _
  · exact BoolsBlk.set_far ((keep gs h.is.lt h.of_.2.2.2.2).trans h.is) (Ne.symm n4) _
  · exact hown.set_far hfp _
  · refine ⟨hg.os, hg.tape, hg.output, by simpa using hsz, fun k hk hn => ?_⟩
    rw [blk_same (fun e => hn (.inl e)), keep k hk (fun e => hn (.inr (.inr (.inr (.inr (.inr e))))))]
end

/-- What leaves a vertex, in the document's lists. -/
theorem RowsO.look {w : World} {G n : Nat} {vs : List Value} {es : List (Int × Int)} {j v : Nat} (h : RowsO w G vs es j) (hl : vs.length = n) (hv : v < n) : ∃ ao cap, w.cell? ⟨G, v, none⟩ = some (.slice ao (Cs.outm es v j).length cap) ∧ IntsAt w ao (Cs.outm es v j) := by
  obtain ⟨x, hx⟩ : ∃ x, vs[v]? = some x := ⟨_, List.getElem?_eq_getElem (by omega)⟩
  have hr : OwnZ w (G + 1) x (Cs.outm es v j) := h.row v x hx
  obtain ⟨ao, cap, rfl, hi, _⟩ := hr.form
  exact ⟨ao, cap, h.cell hx, hi⟩

end Go.Proofs.Ytponmjipbcmlhaa
