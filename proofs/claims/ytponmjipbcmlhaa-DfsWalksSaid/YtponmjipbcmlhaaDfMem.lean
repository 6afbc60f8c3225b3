/-
  A walk under way, in memory.
-/
import Derived.Test.YtponmjipbcmlhaaDfA
import Derived.Test.YtponmjipbcmlhaaDfStk
import Derived.Test.YtponmjipbcmlhaaCsGet2
namespace Go.Proofs.Ytponmjipbcmlhaa
open Go.RowKit

/-- The cells of a walker. -/
abbrev wcells (av : Value) (gp gh gr n m : Nat) (ov sv : Value) : Array Value := #[av, .slice (some ⟨gp, 0, none⟩) n n, .slice (some ⟨gh, 0, none⟩) n n, ov, .slice (some ⟨gr, 0, none⟩) m m, sv]

/-- Block p is a walker over the Adj av, the walk s under way, K what is ahead; all of it was laid since w0. -/
structure WalkAt (w0 w : World) (p gp gh gr : Nat) (av ov sv : Value) (n m : Nat) (s : Df.St) (K : List Int) : Prop where
  bel : Below w0.heap.size w0 w
  blk : w.heap[p]? = some (.cells (wcells av gp gh gr n m ov sv) 72 (0, 0))
  ip : IntsBlk w gp s.par
  ih : IntsBlk w gh s.hei
  ir : IntsBlk w gr s.ori
  ow : OwnZ w w0.heap.size ov s.ord
  sw : OwnZ w w0.heap.size sv K
  lo : w0.heap.size ≤ p ∧ w0.heap.size ≤ gp ∧ w0.heap.size ≤ gh ∧ w0.heap.size ≤ gr
  ne : p ≠ gp ∧ p ≠ gh ∧ p ≠ gr ∧ gp ≠ gh ∧ gp ≠ gr ∧ gh ≠ gr
  of_ : ov.ownBlock ≠ some p ∧ ov.ownBlock ≠ some gp ∧ ov.ownBlock ≠ some gh ∧ ov.ownBlock ≠ some gr
  sf : sv.ownBlock ≠ some p ∧ sv.ownBlock ≠ some gp ∧ sv.ownBlock ≠ some gh ∧ sv.ownBlock ≠ some gr
  os : ∀ b, ov.ownBlock = some b → sv.ownBlock ≠ some b

theorem OwnZ.lt {w : World} {B : Nat} {v : Value} {l : List Int} (h : OwnZ w B v l) {b : Nat} (hb : v.ownBlock = some b) : B ≤ b ∧ b < w.heap.size := World.ownsRow.lt h b hb

section
variable {w0 w w' : World} {p gp gh gr : Nat} {av ov sv : Value} {n m : Nat} {s : Df.St} {K : List Int}

theorem WalkAt.c0 (h : WalkAt w0 w p gp gh gr av ov sv n m s K) : w.cell? ⟨p, 0, none⟩ = some av := by simp [World.cell?, h.blk]
theorem WalkAt.c1 (h : WalkAt w0 w p gp gh gr av ov sv n m s K) : w.cell? ⟨p, 1, none⟩ = some (.slice (some ⟨gp, 0, none⟩) n n) := by simp [World.cell?, h.blk]
theorem WalkAt.c2 (h : WalkAt w0 w p gp gh gr av ov sv n m s K) : w.cell? ⟨p, 2, none⟩ = some (.slice (some ⟨gh, 0, none⟩) n n) := by simp [World.cell?, h.blk]
theorem WalkAt.c3 (h : WalkAt w0 w p gp gh gr av ov sv n m s K) : w.cell? ⟨p, 3, none⟩ = some ov := by simp [World.cell?, h.blk]
theorem WalkAt.c4 (h : WalkAt w0 w p gp gh gr av ov sv n m s K) : w.cell? ⟨p, 4, none⟩ = some (.slice (some ⟨gr, 0, none⟩) m m) := by simp [World.cell?, h.blk]
theorem WalkAt.free (h : WalkAt w0 w p gp gh gr av ov sv n m s K) (i : Nat) : w.frozen? ⟨p, i, none⟩ = false := by simp [World.frozen?, h.blk]
theorem WalkAt.lt (h : WalkAt w0 w p gp gh gr av ov sv n m s K) : p < w.heap.size := lt_of_block h.blk

theorem WalkAt.later (h : WalkAt w0 w p gp gh gr av ov sv n m s K) (hb : Below w.heap.size w w') : WalkAt w0 w' p gp gh gr av ov sv n m s K :=
  ⟨h.bel.trans (hb.mono h.bel.size), (hb.block p h.lt).trans h.blk, h.ip.later hb, h.ih.later hb, h.ir.later hb, h.ow.later hb, h.sw.later hb, h.lo, h.ne, h.of_, h.sf, h.os⟩

theorem WalkAt.stk (h : WalkAt w0 w p gp gh gr av ov sv n m s K) : StkAt w p 5 (wcells av gp gh gr n m ov sv) 72 w0.heap.size sv K := ⟨h.blk, rfl, h.sw, h.sf.1⟩

/-- A store into one of the lists, or only block p is written. -/
theorem blk_same {g b i : Nat} (hne : g ≠ b) (x : Value) : (w.setCell ⟨b, i, none⟩ x).heap[g]? = w.heap[g]? := heap_setCell_other w ⟨b, i, none⟩ g x hne

theorem OwnZ.set_far {B b i : Nat} {v : Value} {l : List Int} (h : OwnZ w B v l) (hf : v.ownBlock ≠ some b) (x : Value) : OwnZ (w.setCell ⟨b, i, none⟩ x) B v l :=
  h.same fun _ hg _ => blk_same (fun e => hf (by rw [hg, e])) x

theorem IntsBlk.set_far {g b i : Nat} {l : List Int} (h : IntsBlk w g l) (hf : g ≠ b) (x : Value) : IntsBlk (w.setCell ⟨b, i, none⟩ x) g l := (blk_same hf x).trans h

theorem WalkAt.setPar (h : WalkAt w0 w p gp gh gr av ov sv n m s K) (v : Nat) (x : Int) : WalkAt w0 (w.setCell ⟨gp, v, none⟩ (.int .i64 x)) p gp gh gr av ov sv n m { s with par := s.par.set v x } K :=
  ⟨h.bel.setCell (p := ⟨gp, v, none⟩) h.lo.2.1 _, (blk_same h.ne.1 _).trans h.blk, h.ip.set v x, h.ih.set_far (Ne.symm h.ne.2.2.2.1) _, h.ir.set_far (Ne.symm h.ne.2.2.2.2.1) _, h.ow.set_far h.of_.2.1 _, h.sw.set_far h.sf.2.1 _, h.lo, h.ne, h.of_, h.sf, h.os⟩

theorem WalkAt.setHei (h : WalkAt w0 w p gp gh gr av ov sv n m s K) (v : Nat) (x : Int) : WalkAt w0 (w.setCell ⟨gh, v, none⟩ (.int .i64 x)) p gp gh gr av ov sv n m { s with hei := s.hei.set v x } K :=
  ⟨h.bel.setCell (p := ⟨gh, v, none⟩) h.lo.2.2.1 _, (blk_same h.ne.2.1 _).trans h.blk, h.ip.set_far h.ne.2.2.2.1 _, h.ih.set v x, h.ir.set_far (Ne.symm h.ne.2.2.2.2.2) _, h.ow.set_far h.of_.2.2.1 _, h.sw.set_far h.sf.2.2.1 _, h.lo, h.ne, h.of_, h.sf, h.os⟩

theorem WalkAt.setOri (h : WalkAt w0 w p gp gh gr av ov sv n m s K) (v : Nat) (x : Int) : WalkAt w0 (w.setCell ⟨gr, v, none⟩ (.int .i64 x)) p gp gh gr av ov sv n m { s with ori := s.ori.set v x } K :=
  ⟨h.bel.setCell (p := ⟨gr, v, none⟩) h.lo.2.2.2 _, (blk_same h.ne.2.2.1 _).trans h.blk, h.ip.set_far h.ne.2.2.2.2.1 _, h.ih.set_far h.ne.2.2.2.2.2 _, h.ir.set v x, h.ow.set_far h.of_.2.2.2 _, h.sw.set_far h.sf.2.2.2 _, h.lo, h.ne, h.of_, h.sf, h.os⟩

/-- Order is appended to. -/
theorem WalkAt.putOrd {w1 : World} {ov' : Value} {x : Int} {tmp : Obj} (h : WalkAt w0 w p gp gh gr av ov sv n m s K) (hown : OwnZ w1 w0.heap.size ov' (s.ord ++ [x])) (hg : (w.alloc tmp).grownBy w1 ov.ownBlock) (hat : ov'.ownBlock = ov.ownBlock ∨ ov'.ownBlock = some (w.heap.size + 1)) :
    WalkAt w0 (w1.setCell ⟨p, 3, none⟩ ov') p gp gh gr av ov' sv n m { s with ord := s.ord ++ [x] } K ∧ w1.cell? ⟨p, 3, none⟩ = some ov ∧ w1.frozen? ⟨p, 3, none⟩ = false ∧ w1.heap[p]? = w.heap[p]? := by
  have keep : ∀ b, b < w.heap.size → ov.ownBlock ≠ some b → w1.heap[b]? = w.heap[b]? := fun b hb hne => by
    rw [hg.block b (by rw [World.size_alloc]; omega) (fun e => hne e.symm)]
    exact Below.heap_alloc w tmp b hb
  have hp := keep p h.lt h.of_.1
  have hp1 := hp.trans h.blk
  have hsz : w.heap.size ≤ w1.heap.size := by
    have := hg.size
    rw [World.size_alloc] at this
    omega
  have hB := h.bel.size
  have hnew : ∀ b, b < w.heap.size → ov.ownBlock ≠ some b → ov'.ownBlock ≠ some b := fun b hb hne e => by
    rcases hat with e1 | e1
    · exact hne (e1.symm.trans e)
    · rw [e1] at e
      have := Option.some.inj e
      omega
  have hfp := hnew p h.lt h.of_.1
  refine ⟨⟨?_, ?_, ?_, ?_, ?_, ?_, ?_, h.lo, h.ne, ⟨hfp, hnew gp h.ip.lt h.of_.2.1, hnew gh h.ih.lt h.of_.2.2.1, hnew gr h.ir.lt h.of_.2.2.2⟩, h.sf, fun b hb hs => ?_⟩, by simp [World.cell?, hp1], by simp [World.frozen?, hp1], hp⟩
  · have hb1 : Below w0.heap.size w w1 := ⟨hg.os, hg.tape, hg.output, hsz, fun k hk => keep k (by omega) (fun e => by have := (h.ow.lt e).1; omega)⟩
    exact (h.bel.trans hb1).setCell (p := ⟨p, 3, none⟩) h.lo.1 _
  · rw [heap_setCell_same w1 p 3 _ _ _ hp1]
    rfl
  · exact IntsBlk.set_far ((keep gp h.ip.lt h.of_.2.1).trans h.ip) (Ne.symm h.ne.1) _
  · exact IntsBlk.set_far ((keep gh h.ih.lt h.of_.2.2.1).trans h.ih) (Ne.symm h.ne.2.1) _
  · exact IntsBlk.set_far ((keep gr h.ir.lt h.of_.2.2.2).trans h.ir) (Ne.symm h.ne.2.2.1) _
  · exact hown.set_far hfp _
  · exact OwnZ.set_far (h.sw.same fun b hb hl => keep b hl fun e => h.os b e hb) h.sf.1 _
  · exact hnew b (h.sw.lt hs).2 (fun e => h.os b e hs) hb

/-- The stack is pushed. -/
theorem WalkAt.pushed {e : Ending} {K' : List Int} (h : WalkAt w0 w p gp gh gr av ov sv n m s K) (hp : PushPost p 5 (wcells av gp gh gr n m ov sv) 72 w0.heap.size sv K' w e w') : ∃ sv', WalkAt w0 w' p gp gh gr av ov sv' n m s K' := by
  obtain ⟨_, v', hst, hat, hw⟩ := hp
  have keep : ∀ b, b < w.heap.size → b ≠ p → sv.ownBlock ≠ some b → w'.heap[b]? = w.heap[b]? := fun b hb h1 h2 => hw.block b hb (fun e => e.elim h1 h2)
  have hnew : ∀ b, b < w.heap.size → sv.ownBlock ≠ some b → v'.ownBlock ≠ some b := fun b hb hne e => by
    rcases hat with e1 | ⟨g, e1, hg⟩
    · exact hne (e1.symm.trans e)
    · rw [e1] at e
      have := Option.some.inj e
      omega
  have hB := h.bel.size
  refine ⟨v', ⟨h.bel.trans (hw.below hB fun k hk => ?_), hst.blk, (keep gp h.ip.lt (Ne.symm h.ne.1) h.sf.2.1).trans h.ip, (keep gh h.ih.lt (Ne.symm h.ne.2.1) h.sf.2.2.1).trans h.ih, (keep gr h.ir.lt (Ne.symm h.ne.2.2.1) h.sf.2.2.2).trans h.ir,
    h.ow.same fun b hb hl => keep b hl (fun e => h.of_.1 (by rw [hb, e])) (h.os b hb), hst.own, h.lo, h.ne, h.of_, ⟨hst.far, hnew gp h.ip.lt h.sf.2.1, hnew gh h.ih.lt h.sf.2.2.1, hnew gr h.ir.lt h.sf.2.2.2⟩, fun b hb => hnew b (h.ow.lt hb).2 (h.os b hb)⟩⟩
  rcases hk with rfl | hk
  · exact h.lo.1
  · exact (h.sw.lt hk).1

/-- The stack is popped. -/
theorem WalkAt.popped {x : Int} {e : Ending} {K' : List Int} (h : WalkAt w0 w p gp gh gr av ov sv n m s K) (hp : PopPost p 5 (wcells av gp gh gr n m ov sv) 72 w0.heap.size sv K' x w e w') : ∃ sv', WalkAt w0 w' p gp gh gr av ov sv' n m s K' := by
  obtain ⟨_, v', hst, hat, hw⟩ := hp
  have keep : ∀ b, b < w.heap.size → b ≠ p → w'.heap[b]? = w.heap[b]? := fun b hb h1 => hw.block b hb h1
  have hB := h.bel.size
  refine ⟨v', ⟨h.bel.trans (hw.below hB fun k hk => by subst hk; exact h.lo.1), hst.blk, (keep gp h.ip.lt (Ne.symm h.ne.1)).trans h.ip, (keep gh h.ih.lt (Ne.symm h.ne.2.1)).trans h.ih, (keep gr h.ir.lt (Ne.symm h.ne.2.2.1)).trans h.ir,
    h.ow.same fun b hb hl => keep b hl (fun e => h.of_.1 (by rw [hb, e])), hst.own, h.lo, h.ne, h.of_, by rw [hat]; exact h.sf, by rw [hat]; exact h.os⟩⟩
end

end Go.Proofs.Ytponmjipbcmlhaa
