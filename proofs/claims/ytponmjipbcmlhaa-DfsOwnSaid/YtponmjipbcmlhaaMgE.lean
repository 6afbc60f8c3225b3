import Derived.Test.YtponmjipbcmlhaaMgA
import Derived.Test.YtponmjipbcmlhaaMgC
import Derived.Test.YtponmjipbcmlhaaCsGet2
import Derived.Deep.RegionHeld3
/-
  A walk under way, in memory.
-/
namespace Go.Proofs.Ytponmjipbcmlhaa
open Go.RowKit

/-- The cells of a walker. -/
abbrev wcells (av : Value) (gp gh gr n m : Nat) (ov sv : Value) : Array Value := #[av, .slice (some ⟨gp, 0, none⟩) n n, .slice (some ⟨gh, 0, none⟩) n n, ov, .slice (some ⟨gr, 0, none⟩) m m, sv]

/-- Block p is a walker over the Adj av, the walk s under way, K what is ahead; all of it was laid since w0. -/
structure WalkAt (w0 w : World) (p gp gh gr : Nat) (av ov sv : Value) (n m : Nat) (s : Df.St) (K : List Int) : Prop where
  bel : Below w0.heap.size w0 w
  blk : w.heap[p]? = some (.cells (wcells av gp gh gr n m ov sv) 72 (0, 0))
  ip : IntsBlk w gp s.par
  ih : IntsBlk w gh s.hei
  ir : IntsBlk w gr s.ori
  ow : OwnZ w w0.heap.size ov s.ord
  sw : OwnZ w w0.heap.size sv K
  lo : w0.heap.size ≤ p ∧ w0.heap.size ≤ gp ∧ w0.heap.size ≤ gh ∧ w0.heap.size ≤ gr
  ne : p ≠ gp ∧ p ≠ gh ∧ p ≠ gr ∧ gp ≠ gh ∧ gp ≠ gr ∧ gh ≠ gr
  of_ : ov.ownBlock ≠ some p ∧ ov.ownBlock ≠ some gp ∧ ov.ownBlock ≠ some gh ∧ ov.ownBlock ≠ some gr
  sf : sv.ownBlock ≠ some p ∧ sv.ownBlock ≠ some gp ∧ sv.ownBlock ≠ some gh ∧ sv.ownBlock ≠ some gr
  os : ∀ b, ov.ownBlock = some b → sv.ownBlock ≠ some b

theorem OwnZ.lt {w : World} {B : Nat} {v : Value} {l : List Int} (h : OwnZ w B v l) {b : Nat} (hb : v.ownBlock = some b) : B ≤ b ∧ b < w.heap.size := World.ownsRow.lt h b hb

section
variable {w0 w w' : World} {p gp gh gr : Nat} {av ov sv : Value} {n m : Nat} {s : Df.St} {K : List Int}

theorem WalkAt.c0 (h : WalkAt w0 w p gp gh gr av ov sv n m s K) : w.cell? ⟨p, 0, none⟩ = some av := by simp [World.cell?, h.blk]
theorem WalkAt.c1 (h : WalkAt w0 w p gp gh gr av ov sv n m s K) : w.cell? ⟨p, 1, none⟩ = some (.slice (some ⟨gp, 0, none⟩) n n) := by simp [World.cell?, h.blk]
theorem WalkAt.c2 (h : WalkAt w0 w p gp gh gr av ov sv n m s K) : w.cell? ⟨p, 2, none⟩ = some (.slice (some ⟨gh, 0, none⟩) n n) := by simp [World.cell?, h.blk]
theorem WalkAt.c3 (h : WalkAt w0 w p gp gh gr av ov sv n m s K) : w.cell? ⟨p, 3, none⟩ = some ov := by simp [World.cell?, h.blk]
theorem WalkAt.c4 (h : WalkAt w0 w p gp gh gr av ov sv n m s K) : w.cell? ⟨p, 4, none⟩ = some (.slice (some ⟨gr, 0, none⟩) m m) := by simp [World.cell?, h.blk]
theorem WalkAt.free (h : WalkAt w0 w p gp gh gr av ov sv n m s K) (i : Nat) : w.frozen? ⟨p, i, none⟩ = false := by simp [World.frozen?, h.blk]
theorem WalkAt.lt (h : WalkAt w0 w p gp gh gr av ov sv n m s K) : p < w.heap.size := lt_of_block h.blk

theorem WalkAt.later (h : WalkAt w0 w p gp gh gr av ov sv n m s K) (hb : Below w.heap.size w w') : WalkAt w0 w' p gp gh gr av ov sv n m s K :=
  ⟨h.bel.trans (hb.mono h.bel.size), (hb.block p h.lt).trans h.blk, h.ip.later hb, h.ih.later hb, h.ir.later hb, h.ow.later hb, h.sw.later hb, h.lo, h.ne, h.of_, h.sf, h.os⟩

theorem WalkAt.stk (h : WalkAt w0 w p gp gh gr av ov sv n m s K) : StkAt w p 5 (wcells av gp gh gr n m ov sv) 72 w0.heap.size sv K := ⟨h.blk, rfl, h.sw, h.sf.1⟩

/-- A store into one of the lists, or only block p is written. -/
theorem blk_same {g b i : Nat} (hne : g ≠ b) (x : Value) : (w.setCell ⟨b, i, none⟩ x).heap[g]? = w.heap[g]? := heap_setCell_other w ⟨b, i, none⟩ g x hne

theorem OwnZ.set_far {B b i : Nat} {v : Value} {l : List Int} (h : OwnZ w B v l) (hf : v.ownBlock ≠ some b) (x : Value) : OwnZ (w.setCell ⟨b, i, none⟩ x) B v l :=
  h.same fun _ hg _ => blk_same (fun e => hf (by rw [hg, e])) x

theorem IntsBlk.set_far {g b i : Nat} {l : List Int} (h : IntsBlk w g l) (hf : g ≠ b) (x : Value) : IntsBlk (w.setCell ⟨b, i, none⟩ x) g l := (blk_same hf x).trans h

theorem WalkAt.setPar (h : WalkAt w0 w p gp gh gr av ov sv n m s K) (v : Nat) (x : Int) : WalkAt w0 (w.setCell ⟨gp, v, none⟩ (.int .i64 x)) p gp gh gr av ov sv n m { s with par := s.par.set v x } K :=
  ⟨h.bel.setCell (p := ⟨gp, v, none⟩) h.lo.2.1 _, (blk_same h.ne.1 _).trans h.blk, h.ip.set v x, h.ih.set_far (Ne.symm h.ne.2.2.2.1) _, h.ir.set_far (Ne.symm h.ne.2.2.2.2.1) _, h.ow.set_far h.of_.2.1 _, h.sw.set_far h.sf.2.1 _, h.lo, h.ne, h.of_, h.sf, h.os⟩

theorem WalkAt.setHei (h : WalkAt w0 w p gp gh gr av ov sv n m s K) (v : Nat) (x : Int) : WalkAt w0 (w.setCell ⟨gh, v, none⟩ (.int .i64 x)) p gp gh gr av ov sv n m { s with hei := s.hei.set v x } K :=
  ⟨h.bel.setCell (p := ⟨gh, v, none⟩) h.lo.2.2.1 _, (blk_same h.ne.2.1 _).trans h.blk, h.ip.set_far h.ne.2.2.2.1 _, h.ih.set v x, h.ir.set_far (Ne.symm h.ne.2.2.2.2.2) _, h.ow.set_far h.of_.2.2.1 _, h.sw.set_far h.sf.2.2.1 _, h.lo, h.ne, h.of_, h.sf, h.os⟩

theorem WalkAt.setOri (h : WalkAt w0 w p gp gh gr av ov sv n m s K) (v : Nat) (x : Int) : WalkAt w0 (w.setCell ⟨gr, v, none⟩ (.int .i64 x)) p gp gh gr av ov sv n m { s with ori := s.ori.set v x } K :=
  ⟨h.bel.setCell (p := ⟨gr, v, none⟩) h.lo.2.2.2 _, (blk_same h.ne.2.2.1 _).trans h.blk, h.ip.set_far h.ne.2.2.2.2.1 _, h.ih.set_far h.ne.2.2.2.2.2 _, h.ir.set v x, h.ow.set_far h.of_.2.2.2 _, h.sw.set_far h.sf.2.2.2 _, h.lo, h.ne, h.of_, h.sf, h.os⟩

/-- Order is appended to. -/
theorem WalkAt.putOrd {w1 : World} {ov' : Value} {x : Int} {tmp : Obj} (h : WalkAt w0 w p gp gh gr av ov sv n m s K) (hown : OwnZ w1 w0.heap.size ov' (s.ord ++ [x])) (hg : (w.alloc tmp).grownBy w1 ov.ownBlock) (hat : ov'.ownBlock = ov.ownBlock ∨ ov'.ownBlock = some (w.heap.size + 1)) :
    WalkAt w0 (w1.setCell ⟨p, 3, none⟩ ov') p gp gh gr av ov' sv n m { s with ord := s.ord ++ [x] } K ∧ w1.cell? ⟨p, 3, none⟩ = some ov ∧ w1.frozen? ⟨p, 3, none⟩ = false ∧ w1.heap[p]? = w.heap[p]? := by
  have keep : ∀ b, b < w.heap.size → ov.ownBlock ≠ some b → w1.heap[b]? = w.heap[b]? := fun b hb hne => by
    rw [hg.block b (by rw [World.size_alloc]; omega) (fun e => hne e.symm)]
    exact Below.heap_alloc w tmp b hb
  have hp := keep p h.lt h.of_.1
  have hp1 := hp.trans h.blk
  have hsz : w.heap.size ≤ w1.heap.size := by
    have := hg.size
    rw [World.size_alloc] at this
    omega
  have hB := h.bel.size
  have hnew : ∀ b, b < w.heap.size → ov.ownBlock ≠ some b → ov'.ownBlock ≠ some b := fun b hb hne e => by
    rcases hat with e1 | e1
    · exact hne (e1.symm.trans e)
    · rw [e1] at e
      have := Option.some.inj e
      omega
  have hfp := hnew p h.lt h.of_.1
  refine ⟨⟨?_, ?_, ?_, ?_, ?_, ?_, ?_, h.lo, h.ne, ⟨hfp, hnew gp h.ip.lt h.of_.2.1, hnew gh h.ih.lt h.of_.2.2.1, hnew gr h.ir.lt h.of_.2.2.2⟩, h.sf, fun b hb hs => ?_⟩, by simp [World.cell?, hp1], by simp [World.frozen?, hp1], hp⟩
  · have hb1 : Below w0.heap.size w w1 := ⟨hg.os, hg.tape, hg.output, hsz, fun k hk => keep k (by omega) (fun e => by have := (h.ow.lt e).1; omega)⟩
    exact (h.bel.trans hb1).setCell (p := ⟨p, 3, none⟩) h.lo.1 _
  · rw [heap_setCell_same w1 p 3 _ _ _ hp1]
    rfl
  · exact IntsBlk.set_far ((keep gp h.ip.lt h.of_.2.1).trans h.ip) (Ne.symm h.ne.1) _
  · exact IntsBlk.set_far ((keep gh h.ih.lt h.of_.2.2.1).trans h.ih) (Ne.symm h.ne.2.1) _
  · exact IntsBlk.set_far ((keep gr h.ir.lt h.of_.2.2.2).trans h.ir) (Ne.symm h.ne.2.2.1) _
  · exact hown.set_far hfp _
  · exact OwnZ.set_far (h.sw.same fun b hb hl => keep b hl fun e => h.os b e hb) h.sf.1 _
  · exact hnew b (h.sw.lt hs).2 (fun e => h.os b e hs) hb

/-- The stack is pushed. -/
theorem WalkAt.pushed {e : Ending} {K' : List Int} (h : WalkAt w0 w p gp gh gr av ov sv n m s K) (hp : PushPost p 5 (wcells av gp gh gr n m ov sv) 72 w0.heap.size sv K' w e w') : ∃ sv', WalkAt w0 w' p gp gh gr av ov sv' n m s K' := by
  obtain ⟨_, v', hst, hat, hw⟩ := hp
  have keep : ∀ b, b < w.heap.size → b ≠ p → sv.ownBlock ≠ some b → w'.heap[b]? = w.heap[b]? := fun b hb h1 h2 => hw.block b hb (fun e => e.elim h1 h2)
  have hnew : ∀ b, b < w.heap.size → sv.ownBlock ≠ some b → v'.ownBlock ≠ some b := fun b hb hne e => by
    rcases hat with e1 | ⟨g, e1, hg⟩
    · exact hne (e1.symm.trans e)
    · rw [e1] at e
      have := Option.some.inj e
      omega
  have hB := h.bel.size
  refine ⟨v', ⟨h.bel.trans (hw.below hB fun k hk => ?_), hst.blk, (keep gp h.ip.lt (Ne.symm h.ne.1) h.sf.2.1).trans h.ip, (keep gh h.ih.lt (Ne.symm h.ne.2.1) h.sf.2.2.1).trans h.ih, (keep gr h.ir.lt (Ne.symm h.ne.2.2.1) h.sf.2.2.2).trans h.ir,
    h.ow.same fun b hb hl => keep b hl (fun e => h.of_.1 (by rw [hb, e])) (h.os b hb), hst.own, h.lo, h.ne, h.of_, ⟨hst.far, hnew gp h.ip.lt h.sf.2.1, hnew gh h.ih.lt h.sf.2.2.1, hnew gr h.ir.lt h.sf.2.2.2⟩, fun b hb => hnew b (h.ow.lt hb).2 (h.os b hb)⟩⟩
  rcases hk with rfl | hk
  · exact h.lo.1
  · exact (h.sw.lt hk).1

/-- The stack is popped. -/
theorem WalkAt.popped {x : Int} {e : Ending} {K' : List Int} (h : WalkAt w0 w p gp gh gr av ov sv n m s K) (hp : PopPost p 5 (wcells av gp gh gr n m ov sv) 72 w0.heap.size sv K' x w e w') : ∃ sv', WalkAt w0 w' p gp gh gr av ov sv' n m s K' := by
  obtain ⟨_, v', hst, hat, hw⟩ := hp
  have keep : ∀ b, b < w.heap.size → b ≠ p → w'.heap[b]? = w.heap[b]? := fun b hb h1 => hw.block b hb h1
  have hB := h.bel.size
  refine ⟨v', ⟨h.bel.trans (hw.below hB fun k hk => by subst hk; exact h.lo.1), hst.blk, (keep gp h.ip.lt (Ne.symm h.ne.1)).trans h.ip, (keep gh h.ih.lt (Ne.symm h.ne.2.1)).trans h.ih, (keep gr h.ir.lt (Ne.symm h.ne.2.2.1)).trans h.ir,
    h.ow.same fun b hb hl => keep b hl (fun e => h.of_.1 (by rw [hb, e])), hst.own, h.lo, h.ne, h.of_, by rw [hat]; exact h.sf, by rw [hat]; exact h.os⟩⟩
end

end Go.Proofs.Ytponmjipbcmlhaa

/-
  To reach a vertex; to walk a half-edge.
-/
namespace Go.Proofs.Ytponmjipbcmlhaa
open Go.RowKit

section
variable {w0 w : World} {p gp gh gr : Nat} {av ov sv : Value} {n : Nat} {es : List (Int × Int)} {s : Df.St} {K : List Int}

/-- What is so behind a step of the walk. -/
def WPost (w0 : World) (p gp gh gr : Nat) (av : Value) (n : Nat) (es : List (Int × Int)) (s : Df.St) (K : List Int) (e : Ending) (w' : World) : Prop :=
  e = .returned (.tuple #[]) ∧ ∃ ov sv, WalkAt w0 w' p gp gh gr av ov sv n es.length s K

theorem getD_of {l : List Int} {i : Nat} (d : Int) (h : i < l.length) : l[i]? = some (l.getD i d) := by
  rw [List.getD_eq_getElem?_getD, List.getElem?_eq_getElem h]
  rfl

set_option maxRecDepth 100000 in
set_option maxHeartbeats 4000000 in
theorem reached_any (v : Nat) (h : WalkAt w0 w p gp gh gr av ov sv n es.length s K) (hl : s.hei.length = n) (hv : v < n) :
    Calls Try.prog 40 #[.pointer (some ⟨p, 0, none⟩), .int .i64 (v : Int)] w fun e w' => e = .returned (.bool (s.height v != -1)) ∧ w' = w := by
  have c2 := h.c2
  have d0 := h.ih.cell (getD_of (-1) (by omega : v < s.hei.length))
  have e0 : (0 : Int) ≤ (v : Int) := by omega
  have e1 : (v : Int) < (n : Int) := by omega
  clear h
  obtain ⟨x, hx⟩ : ∃ x, s.hei.getD v (-1) = x := ⟨_, rfl⟩
  rw [hx] at d0
  have hx' : s.height v = x := hx
  rw [hx']
  clear hx hx'
  go_enter Try.func40, Try.ntmps40
  go_wp2
  go_ret
  exact ⟨rfl, rfl⟩

set_option maxRecDepth 100000 in
set_option maxHeartbeats 4000000 in
theorem walked_any (h : Nat) (hW : WalkAt w0 w p gp gh gr av ov sv n es.length s K) (hl : s.ori.length = es.length) (hh : h < 2 * es.length) (hm : es.length ≤ 4194304) :
    Calls Try.prog 60 #[.pointer (some ⟨p, 0, none⟩), .int .i64 (h : Int)] w fun e w' => e = .returned (.bool (s.dir (h / 2) != -1)) ∧ w' = w := by
  have c4 := hW.c4
  obtain ⟨jh, hjh⟩ : ∃ jh, h / 2 = jh := ⟨_, rfl⟩
  have d0 := hW.ir.cell (getD_of (-1) (by omega : jh < s.ori.length))
  rw [hjh]
  have htd : (h : Int).tdiv 2 = (jh : Int) := by rw [Int.tdiv_eq_ediv_of_nonneg (by omega)]; omega
  have htd2 : (h : Int) / 2 = (jh : Int) := by omega
  have e0 : (0 : Int) ≤ (jh : Int) := by omega
  have e1 : (jh : Int) < (es.length : Int) := by omega
  have e2 : (0 : Int) ≤ (h : Int) := by omega
  obtain ⟨x, hx⟩ : ∃ x, s.ori.getD jh (-1) = x := ⟨_, rfl⟩
  rw [hx] at d0
  have hx' : s.dir jh = x := hx
  rw [hx']
  clear hW hx hx'
  go_enter Try.func60, Try.ntmps60
  go_wp2
  go_ret
  exact ⟨rfl, rfl⟩

set_option maxRecDepth 100000 in
set_option maxHeartbeats 8000000 in
theorem reach_any (v : Nat) (x y : Int) (hadj : IsAdj w0 av n es) (h : WalkAt w0 w p gp gh gr av ov sv n es.length s K) (hp : s.par.length = n) (hl : s.hei.length = n) (hv : v < n) (ho : s.ord.length ≤ 17592186044000) (hK : K.length ≤ 17592186044000) :
    Calls Try.prog 55 #[.pointer (some ⟨p, 0, none⟩), .int .i64 (v : Int), .int .i64 x, .int .i64 y] w (WPost w0 p gp gh gr av n es (s.reach v x y) (K ++ [Cs.firstI n es v])) := by
  obtain ⟨i0, hi, hz0, hz1, hz2⟩ := info_parts Try.infoNum
  have h1 := h.setPar v x
  have h2 := h1.setHei v y
  have c1 := h.c1
  have d1 := h.ip.cell (getD_of (-1) (by omega : v < s.par.length))
  have f1 := h.ip.free v
  have c2 := h1.c2
  have d2 := h1.ih.cell (getD_of (-1) (by dsimp only; omega : v < { s with par := s.par.set v x }.hei.length))
  have f2 := h1.ih.free v
  have c3 := h2.c3
  have e0 : (0 : Int) ≤ (v : Int) := by omega
  have e1 : (v : Int) < (n : Int) := by omega
  obtain ⟨w2, hw2⟩ : ∃ w2, w2 = (w.setCell ⟨gp, v, none⟩ (.int .i64 x)).setCell ⟨gh, v, none⟩ (.int .i64 y) := ⟨_, rfl⟩
  rw [← hw2] at h2
  have HW2 := Nu.hid hw2
  have hav : ∃ q, av = .pointer q := by
    rcases hadj with ⟨h, _⟩ | ⟨_, p, h, _⟩
    · exact ⟨_, h⟩
    · exact ⟨_, h⟩
  obtain ⟨q, rfl⟩ := hav
  have hrow : w2.ownsRow w0.heap.size 3 1 ov s.ord.length (s.ord.map (Value.int .i64)) := h2.ow
  have HROW := Nu.hid hrow
  have H2 := Nu.hid h2
  have hB := h2.bel.size
  have hlt2 := h2.lt
  have HADJ := Nu.hid hadj
  clear h h1 h2 hw2 hrow hadj
  go_enter Try.func55, Try.ntmps55
  go_wp2_with (at_builtin; rw [← HW2.out]; refine Hid.out ?_)
  refine Nu.hid ?_
  have hszw : w2.heap.size = w.heap.size := by rw [HW2.out]; simp
  refine wpList_append_own_at _ rfl _ _ 26 rfl w0.heap.size 3 i0 (.int .i64 0) 1 8 Try.underlying26 hi hz0 hz1 hz2 rfl (by decide) ov _ _ rfl (World.ownsRow.alloc HROW.out _) ⟨w.heap.size, 0, none⟩ 1 1 [.int .i64 (v : Int)] rfl rfl (by rw [← hszw]; exact cell_one_new _ _ _) (by simp [Value.oneCell']) (by unfold maxLen; omega) (by omega) (by simp; omega) ?_
  intro ov' w3 hown hg _ hat
  have hz : OwnZ w3 w0.heap.size ov' (s.ord ++ [(v : Int)]) := by
    unfold OwnZ
    rw [List.length_append, List.map_append]
    exact hown
  obtain ⟨h3, c5, f5, _⟩ := H2.out.putOrd hz hg (by simpa using hat)
  obtain ⟨g3, cap3, hv3⟩ := own_succ hown
  subst hv3
  obtain ⟨w4, hw4⟩ : ∃ w4, w4 = w3.setCell ⟨p, 3, none⟩ (.slice (some ⟨g3, 0, none⟩) (s.ord.length + 1) cap3) := ⟨_, rfl⟩
  rw [← hw4] at h3
  have HW4 := Nu.hid hw4
  have H3 := Nu.hid h3
  clear hown hg hat hz hw4 h3 c1 c2 c3 d1 d2 f1 f2 HROW H2
  go_wp2_with fail
  rw [← HW4.out]
  have c6 := H3.out.c0
  have HF : Hid (∀ V, Below w4.heap.size w4 V → Calls Try.prog 69 #[.pointer q, .int .i64 (v : Int)] V fun e V' => e = .returned (.int .i64 (Cs.firstI n es v)) ∧ Below V.heap.size V V') := fun V hV => (first_any _ n es v V (HADJ.out.later (H3.out.bel.trans (hV.mono H3.out.bel.size)))).mono (by
    rintro e V' ⟨rfl, k, rfl⟩
    exact ⟨rfl, below_drewN (Below.refl _ _) k⟩)
  have HP : Hid (∀ V, Below w4.heap.size w4 V → Calls Try.prog 58 #[.pointer (some ⟨p, 5, none⟩), .int .i64 (Cs.firstI n es v)] V fun e V' => e = .returned (.tuple #[]) ∧ ∃ ov sv, WalkAt w0 V' p gp gh gr (.pointer q) ov sv n es.length (s.reach v x y) (K ++ [Cs.firstI n es v])) := fun V hV => by
    have hW := H3.out.later hV
    refine (push_any p 5 _ _ _ _ K (Cs.firstI n es v) V hW.stk hW.bel.size hK).mono ?_
    intro e V' hp
    obtain ⟨sv', h⟩ := hW.pushed hp
    exact ⟨hp.1, _, sv', h⟩
  have hbd : Below w4.heap.size w4 w4.drew := (Below.refl _ _).drew
  have hS : ∀ V, Below w4.heap.size w4 V → (V.cell? ⟨p, 0, none⟩ = some (.pointer q)) := fun V hV => (H3.out.later hV).c0
  have HS := Nu.hid hS
  clear c6 hS c5 f5
  go_region_held3 (fun V => V.cell? ⟨p, 0, none⟩ = some (.pointer q))
    (first | exact HS.out _ (by first | assumption | exact hbd) | (obtain ⟨_, _, hw⟩ := ‹∃ ov sv, WalkAt _ _ _ _ _ _ _ ov sv _ _ _ _›; exact hw.c0))
    ((first
      | (go_at_call 69; refine (HF.out _ (by first | assumption | exact hbd)).mono ?_; rintro e V1 ⟨rfl, hv1⟩; have hb1 : Below w4.heap.size w4 V1 := Below.trans (by first | assumption | exact hbd) (hv1.mono (Below.size (by first | assumption | exact hbd))))
      | (go_at_call 58; refine (HP.out _ (by first | assumption | exact hbd)).mono ?_; rintro e V2 ⟨rfl, hv2⟩)))
  all_goals
    go_wp2
    go_end0
    exact ⟨rfl, hv2⟩
end

end Go.Proofs.Ytponmjipbcmlhaa

/-
  To walk a half-edge.
-/
namespace Go.Proofs.Ytponmjipbcmlhaa
open Go.RowKit

theorem Cs.fr_ne_to {n : Nat} {es : List (Int × Int)} (hv : Si.Val n es) {h : Nat} (hh : h < 2 * es.length) : Cs.fr es h ≠ Cs.to es h := by
  obtain ⟨p, hp⟩ : ∃ p, es[h / 2]? = some p := ⟨_, List.getElem?_eq_getElem (by omega)⟩
  have ho := hv.each _ p hp
  unfold Si.ok at ho
  unfold Cs.fr Cs.to
  rw [List.getD_eq_getElem?_getD, hp]
  dsimp only [Option.getD_some]
  split <;> omega

/-- An Adj that isn't nil, or of nothing, is of a valid graph. -/
theorem IsAdj.val {w : World} {v : Value} {n : Nat} {es : List (Int × Int)} (h : IsAdj w v n es) {i : Nat} (hi : i < 2 * es.length) : Si.Val n es := by
  rcases h with ⟨_, _, rfl⟩ | ⟨_, _, _, h, _⟩
  · simp at hi
  · exact h

section
variable {w0 w : World} {p gp gh gr : Nat} {av ov sv : Value} {n r : Nat} {es : List (Int × Int)} {s : Df.St} {K : List Int}

set_option maxRecDepth 100000 in
set_option maxHeartbeats 8000000 in
theorem walk_back (h : Nat) (hadj : IsAdj w0 av n es) (hW : WalkAt w0 w p gp gh gr av ov sv n es.length s K) (b : Df.Bd n es r s) (hh : h < 2 * es.length) (hv : s.height (Cs.to es h) ≠ -1) :
    Calls Try.prog 61 #[.pointer (some ⟨p, 0, none⟩), .int .i64 (h : Int)] w (WPost w0 p gp gh gr av n es (s.mark h) K) := by
  have hval := hadj.val hh
  obtain ⟨hbn, hbm⟩ := hadj.bounds
  have ht := (Cs.half_lt hval hh).2
  obtain ⟨jh, hjh⟩ : ∃ jh, h / 2 = jh := ⟨_, rfl⟩
  have c4 := hW.c4
  have d4 := hW.ir.cell (getD_of (-1) (by rw [b.lo]; omega : jh < s.ori.length))
  have f4 := hW.ir.free jh
  have h1 := hW.setOri jh (h : Int)
  have hm : s.mark h = { s with ori := s.ori.set jh (h : Int) } := by unfold Df.St.mark; rw [hjh]
  rw [← hm] at h1
  have htd : (h : Int).tdiv 2 = (jh : Int) := by rw [Int.tdiv_eq_ediv_of_nonneg (by omega)]; omega
  have htd2 : (h : Int) / 2 = (jh : Int) := by omega
  have e0 : (0 : Int) ≤ (jh : Int) := by omega
  have e1 : (jh : Int) < (es.length : Int) := by omega
  have e2 : (0 : Int) ≤ (h : Int) := by omega
  obtain ⟨w1, hw1⟩ : ∃ w1, w1 = w.setCell ⟨gr, jh, none⟩ (.int .i64 (h : Int)) := ⟨_, rfl⟩
  rw [← hw1] at h1
  have HT := to_any av n es h w1 (hadj.later h1.bel)
  rw [Cs.toI_in hh] at HT
  have HR := reached_any (Cs.to es h) h1 b.lh ht
  have hr : ((s.mark h).height (Cs.to es h) != -1) = true := by
    show (s.height (Cs.to es h) != -1) = true
    simpa using hv
  rw [hr] at HR
  have hc0 := h1.c0
  have HW1 := Nu.hid hw1
  have H1 := Nu.hid h1
  have HT' := Nu.hid HT
  have HR' := Nu.hid HR
  clear hval hv hm h1 hw1 HT HR hr hW hadj b
  rw [HW1.out] at hc0
  go_enter Try.func61, Try.ntmps61
  go_wp2_with (first | (go_at_call 65; rw [← HW1.out]; refine HT'.out.mono ?_; rintro e V ⟨rfl, rfl⟩) | (go_at_call 40; refine HR'.out.mono ?_; rintro e V ⟨rfl, rfl⟩))
  go_end0
  exact ⟨rfl, _, _, H1.out⟩

set_option maxRecDepth 100000 in
set_option maxHeartbeats 8000000 in
theorem walk_tree (h : Nat) (hadj : IsAdj w0 av n es) (hW : WalkAt w0 w p gp gh gr av ov sv n es.length s K) (b : Df.Bd n es r s) (hh : h < 2 * es.length) (hv : s.height (Cs.to es h) = -1) (ho : s.ord.length ≤ 17592186044000) (hK : K.length ≤ 17592186044000) :
    Calls Try.prog 61 #[.pointer (some ⟨p, 0, none⟩), .int .i64 (h : Int)] w (WPost w0 p gp gh gr av n es (s.go es h) (K ++ [Cs.firstI n es (Cs.to es h)])) := by
  have hval := hadj.val hh
  obtain ⟨hbn, hbm⟩ := hadj.bounds
  obtain ⟨hf, ht⟩ := Cs.half_lt hval hh
  have hne := Cs.fr_ne_to hval hh
  obtain ⟨jh, hjh⟩ : ∃ jh, h / 2 = jh := ⟨_, rfl⟩
  have c4 := hW.c4
  have d4 := hW.ir.cell (getD_of (-1) (by rw [b.lo]; omega : jh < s.ori.length))
  have f4 := hW.ir.free jh
  have h1 := hW.setOri jh (h : Int)
  have hm : s.mark h = { s with ori := s.ori.set jh (h : Int) } := by unfold Df.St.mark; rw [hjh]
  rw [← hm] at h1
  have htd : (h : Int).tdiv 2 = (jh : Int) := by rw [Int.tdiv_eq_ediv_of_nonneg (by omega)]; omega
  have htd2 : (h : Int) / 2 = (jh : Int) := by omega
  have e0 : (0 : Int) ≤ (jh : Int) := by omega
  have e1 : (jh : Int) < (es.length : Int) := by omega
  have e2 : (0 : Int) ≤ (h : Int) := by omega
  obtain ⟨w1, hw1⟩ : ∃ w1, w1 = w.setCell ⟨gr, jh, none⟩ (.int .i64 (h : Int)) := ⟨_, rfl⟩
  rw [← hw1] at h1
  have HT := to_any av n es h w1 (hadj.later h1.bel)
  rw [Cs.toI_in hh] at HT
  have HR := reached_any (Cs.to es h) h1 b.lh ht
  have hr : ((s.mark h).height (Cs.to es h) != -1) = false := by
    show (s.height (Cs.to es h) != -1) = false
    simpa using hv
  rw [hr] at HR
  have hc0 := h1.c0
  have hhb := b.hh _ hf
  have hbh : b.lh = b.lh := rfl
  have HW1 := Nu.hid hw1
  have H1 := Nu.hid h1
  have HT' := Nu.hid HT
  have HR' := Nu.hid HR
  have hav : ∃ q, av = .pointer q := by
    rcases hadj with ⟨h, _⟩ | ⟨_, p, h, _⟩
    · exact ⟨_, h⟩
    · exact ⟨_, h⟩
  obtain ⟨q, rfl⟩ := hav
  obtain ⟨x, hx⟩ : ∃ x, s.height (Cs.fr es h) = x := ⟨_, rfl⟩
  have hgo : s.go es h = (s.mark h).reach (Cs.to es h) h (x + 1) := by unfold Df.St.go; rw [hx]
  rw [hgo]
  rw [hx] at hhb
  have HF : Hid (∀ V, Below w1.heap.size w1 V → Calls Try.prog 63 #[.pointer q, .int .i64 (h : Int)] V fun e V' => e = .returned (.int .i64 (Cs.fr es h : Int)) ∧ V' = V) := fun V hV => by
    have := from_any _ n es h V (hadj.later (H1.out.bel.trans (hV.mono H1.out.bel.size)))
    rw [Cs.frI_in hh] at this
    exact this
  have hS : ∀ V (s' : Df.St) ov sv K', WalkAt w0 V p gp gh gr (.pointer q) ov sv n es.length s' K' → s'.hei.length = n → s'.height (Cs.fr es h) = x → (V.cell? ⟨p, 2, none⟩ = some (.slice (some ⟨gh, 0, none⟩) n n) ∧ V.cell? ⟨p, 0, none⟩ = some (.pointer q) ∧ V.cell? ⟨gh, Cs.fr es h, none⟩ = some (.int .i64 x)) := fun V s' ov sv K' hw hl hx => by
    refine ⟨hw.c2, hw.c0, ?_⟩
    have := hw.ih.cell (getD_of (-1) (by omega : Cs.fr es h < s'.hei.length))
    rw [this]
    exact congrArg (fun z => some (Value.int .i64 z)) hx
  have HP : Hid (∀ V, Below w1.heap.size w1 V → Calls Try.prog 55 #[.pointer (some ⟨p, 0, none⟩), .int .i64 (Cs.to es h : Int), .int .i64 (h : Int), .int .i64 (x + 1)] V fun e V' => e = .returned (.tuple #[]) ∧ (∃ ov sv, WalkAt w0 V' p gp gh gr (.pointer q) ov sv n es.length ((s.mark h).reach (Cs.to es h) h (x + 1)) (K ++ [Cs.firstI n es (Cs.to es h)])) ∧ (V'.cell? ⟨p, 2, none⟩ = some (.slice (some ⟨gh, 0, none⟩) n n) ∧ V'.cell? ⟨p, 0, none⟩ = some (.pointer q) ∧ V'.cell? ⟨gh, Cs.fr es h, none⟩ = some (.int .i64 x))) := fun V hV => by
    refine (reach_any (Cs.to es h) h (x + 1) hadj (H1.out.later hV) b.lp b.lh ht ho hK).mono ?_
    rintro e V' ⟨he, ov', sv', hw⟩
    refine ⟨he, ⟨ov', sv', hw⟩, hS V' _ ov' sv' _ hw ?_ ?_⟩
    · show (s.hei.set _ _).length = n
      rw [List.length_set]
      exact b.lh
    · show (s.hei.set _ _).getD _ _ = x
      rw [List.getD_eq_getElem?_getD, List.getElem?_set, if_neg (fun e => hne e.symm), ← List.getD_eq_getElem?_getD]
      exact hx
  have HS : Hid (∀ V, Below w1.heap.size w1 V → (V.cell? ⟨p, 2, none⟩ = some (.slice (some ⟨gh, 0, none⟩) n n) ∧ V.cell? ⟨p, 0, none⟩ = some (.pointer q) ∧ V.cell? ⟨gh, Cs.fr es h, none⟩ = some (.int .i64 x))) := fun V hV => hS V _ _ _ _ (H1.out.later hV) b.lh hx
  obtain ⟨f, hff⟩ : ∃ f, Cs.fr es h = f := ⟨_, rfl⟩
  obtain ⟨t, htt⟩ : ∃ t, Cs.to es h = t := ⟨_, rfl⟩
  rw [hff] at HF HS HP hf
  rw [htt] at HT' HR' HP ⊢
  have i0 : (0 : Int) ≤ (f : Int) := by omega
  have i1 : (f : Int) < (n : Int) := by omega
  have hbd : Below w1.heap.size w1 w1.drew := (Below.refl _ _).drew
  have hxw : IntKind.i64.wrap (x + 1) = x + 1 := by rw [IntKind.wrap_i64]; omega
  clear hval hv hm h1 hw1 HT HR hr hW hadj b hgo hS hx hne hff htt hbh
  rw [HW1.out] at hc0
  go_enter Try.func61, Try.ntmps61
  go_wp2_with (first | (go_at_call 65; rw [← HW1.out]; refine HT'.out.mono ?_; rintro e V ⟨rfl, rfl⟩) | (go_at_call 40; refine HR'.out.mono ?_; rintro e V ⟨rfl, rfl⟩))
  go_region_held3 (fun V => V.cell? ⟨p, 2, none⟩ = some (.slice (some ⟨gh, 0, none⟩) n n) ∧ V.cell? ⟨p, 0, none⟩ = some (.pointer q) ∧ V.cell? ⟨gh, f, none⟩ = some (.int .i64 x))
    (first | exact HS.out _ (by first | assumption | exact hbd) | assumption)
    ((first
      | (go_at_call 63; refine (HF.out _ (by first | assumption | exact hbd)).mono ?_; rintro e V1 ⟨rfl, rfl⟩)
      | (go_at_call 55; refine (HP.out _ (by first | assumption | exact hbd)).mono ?_; rintro e V2 ⟨rfl, hv2, hs2⟩)))
  all_goals
    go_wp2
    go_end0
    exact ⟨rfl, hv2⟩
end

end Go.Proofs.Ytponmjipbcmlhaa

/-
  All that is reached from a root.
-/
namespace Go.Proofs.Ytponmjipbcmlhaa
open Go.RowKit

/-- The least number that has P; 0, if none has. -/
noncomputable def leastOf (P : Nat → Prop) : Nat := open Classical in if h : ∃ k, P k ∧ ∀ j, P j → k ≤ j then Classical.choose h else 0

theorem ex_least {P : Nat → Prop} {k : Nat} (h : P k) : ∃ k, P k ∧ ∀ j, P j → k ≤ j := by
  induction k using Nat.strongRecOn with
  | _ k ih =>
    by_cases hk : ∃ j, j < k ∧ P j
    · obtain ⟨j, hj, hp⟩ := hk
      exact ih j hj hp
    · refine ⟨k, h, fun j hj => ?_⟩
      rcases Nat.lt_or_ge j k with h1 | h1
      · exact absurd ⟨j, h1, hj⟩ hk
      · exact h1

theorem leastOf_spec {P : Nat → Prop} {k : Nat} (h : P k) : P (leastOf P) ∧ leastOf P ≤ k := by
  have hx := ex_least h
  unfold leastOf
  rw [dif_pos hx]
  have := Classical.choose_spec hx
  exact ⟨this.1, this.2 k h⟩

namespace Df

/-- What stands on the stack for the half-edges that are left of a vertex. -/
def hd : List Nat → Int
  | [] => -1
  | h :: _ => (h : Int)

/-- L is what is left of a vertex. -/
def Suf (n : Nat) (es : List (Int × Int)) (L : List Nat) : Prop := ∃ v i, v < n ∧ L = (Cs.out es v (2 * es.length)).drop i

theorem hd_getD (L : List Nat) (i : Nat) : (L.map fun i : Nat => (i : Int)).getD i (-1) = hd (L.drop i) := by
  rw [List.getD_eq_getElem?_getD, List.getElem?_map]
  cases h : L[i]? with
  | none =>
    rw [List.drop_of_length_le (List.getElem?_eq_none_iff.1 h)]
    rfl
  | some x =>
    obtain ⟨hi, hx⟩ := List.getElem?_eq_some_iff.1 h
    rw [List.drop_eq_getElem_cons hi, hx]
    rfl

theorem first_hd {n : Nat} {es : List (Int × Int)} {v : Nat} (hv : v < n) : Cs.firstI n es v = hd (Cs.out es v (2 * es.length)) := by
  unfold Cs.firstI Cs.outZ
  rw [Cs.outI_in hv, hd_getD]
  rfl

theorem Suf.all {n : Nat} {es : List (Int × Int)} {v : Nat} (hv : v < n) : Suf n es (Cs.out es v (2 * es.length)) := ⟨v, 0, hv, rfl⟩

theorem Suf.step {n : Nat} {es : List (Int × Int)} {h : Nat} {L : List Nat} (hs : Suf n es (h :: L)) : h < 2 * es.length ∧ Suf n es L ∧ Cs.afterI n es h = hd L := by
  obtain ⟨v, i, hv, e⟩ := hs
  have hi : (Cs.out es v (2 * es.length))[i]? = some h := by
    have := congrArg (fun l : List Nat => l[0]?) e
    simpa using this.symm
  have hL : L = (Cs.out es v (2 * es.length)).drop (i + 1) := by
    have := congrArg List.tail e
    simpa using this
  obtain ⟨h1, h2, h3⟩ := Cs.out_of hi
  refine ⟨h1, ⟨v, i + 1, hv, hL⟩, ?_⟩
  unfold Cs.afterI Cs.outZ
  rw [if_pos (by omega), Int.toNat_natCast, h2, h3, Cs.outI_in hv, hd_getD, ← hL]

theorem Suf.half {n : Nat} {es : List (Int × Int)} {L : List Nat} (hs : Suf n es L) : ∀ x ∈ L, x < 2 * es.length := by
  obtain ⟨v, i, hv, rfl⟩ := hs
  exact fun x hx => out_half x (List.mem_of_mem_drop hx)

/-- All that is on the stack is walked, the top first. -/
inductive RS (es : List (Int × Int)) : Nat → St → List (List Nat) → St → Prop
  | nil (s : St) : RS es 0 s [] s
  | cons {j k : Nat} {s s1 s' : St} {L : List Nat} {T : List (List Nat)} (h1 : R es j s L s1) (h2 : RS es k s1 T s') : RS es (j + k + 1) s (L :: T) s'

/-- The stack, the bottom first. -/
def stk (T : List (List Nat)) : List Int := (T.map hd).reverse
theorem stk_cons (L : List Nat) (T : List (List Nat)) : stk (L :: T) = stk T ++ [hd L] := by simp [stk]
theorem stk_len (T : List (List Nat)) : (stk T).length = T.length := by simp [stk]

end Df

/-- The walk is under way, k is still to be done, and it comes to s'. -/
def TInv (w0 : World) (p gp gh gr : Nat) (av : Value) (n r : Nat) (es : List (Int × Int)) (s' : Df.St) (w : World) (k : Nat) : Prop :=
  ∃ s T ov sv, Df.RS es k s T s' ∧ Df.Bd n es r s ∧ (∀ L ∈ T, Df.Suf n es L) ∧ T.length + s.left ≤ es.length + 1 ∧ WalkAt w0 w p gp gh gr av ov sv n es.length s (Df.stk T)

section
variable {w0 w : World} {p gp gh gr : Nat} {av ov sv : Value} {n r : Nat} {es : List (Int × Int)} {s s' : Df.St}

set_option maxRecDepth 100000 in
set_option maxHeartbeats 16000000 in
theorem walkTree_any (v k : Nat) (hadj : IsAdj w0 av n es) (hW : WalkAt w0 w p gp gh gr av ov sv n es.length s []) (b : Df.Bd n es r s) (hv : v < n) (hr : r ≤ 1048576) (hR : Df.R es k (s.reach v (-1) 0) (Cs.out es v (2 * es.length)) s') :
    Calls Try.prog 41 #[.pointer (some ⟨p, 0, none⟩), .int .i64 (v : Int)] w (WPost w0 p gp gh gr av n es s' []) := by
  obtain ⟨hbn, hbm⟩ := hadj.bounds
  have hord := b.hr
  have hRE := reach_any v (-1) 0 hadj hW b.lp b.lh hv (by omega) (by simp)
  rw [Df.first_hd hv, List.nil_append] at hRE
  have hinv : ∀ V ov' sv', WalkAt w0 V p gp gh gr av ov' sv' n es.length (s.reach v (-1) 0) [Df.hd (Cs.out es v (2 * es.length))] → TInv w0 p gp gh gr av n (r + 1) es s' V (k + 0 + 1) := fun V ov' sv' h =>
    ⟨s.reach v (-1) 0, [Cs.out es v (2 * es.length)], ov', sv', .cons hR (.nil s'), b.root hv, fun L hL => by rw [List.mem_singleton] at hL; subst hL; exact Df.Suf.all hv, by have := b.few; show 1 + s.left ≤ _; omega, h⟩
  have HRE := Nu.hid hRE
  have HINV := Nu.hid hinv
  have HADJ := Nu.hid hadj
  have hav : ∃ q, av = .pointer q := by
    rcases hadj with ⟨h, _⟩ | ⟨_, p, h, _⟩
    · exact ⟨_, h⟩
    · exact ⟨_, h⟩
  obtain ⟨q, rfl⟩ := hav
  clear hRE hinv hR hW hord hadj b
  go_enter Try.func41, Try.ntmps41
  go_wp2_with (go_at_call 55; refine HRE.out.mono ?_; rintro e w1 ⟨rfl, ov1, sv1, h1⟩; have HT1 := Nu.hid (HINV.out w1 ov1 sv1 h1); clear h1)
  clear HRE HINV
  go_loopw [4] (fun _ wr => ∃ k, TInv w0 p gp gh gr (.pointer q) n (r + 1) es s' wr k) (fun _ wr => leastOf (TInv w0 p gp gh gr (.pointer q) n (r + 1) es s' wr))
  case atStart => exact ⟨_, HT1.out⟩
  case round =>
    obtain ⟨k0, hk0⟩ := hrel
    obtain ⟨hI, -⟩ := leastOf_spec hk0
    obtain ⟨k, hk⟩ : ∃ k, leastOf (TInv w0 p gp gh gr (.pointer q) n (r + 1) es s' wr) = k := ⟨_, rfl⟩
    rw [hk] at hI
    have HK := Nu.hid hk
    have HLESS : Hid (∀ V k', TInv w0 p gp gh gr (.pointer q) n (r + 1) es s' V k' → k' < k → leastOf (TInv w0 p gp gh gr (.pointer q) n (r + 1) es s' V) < leastOf (TInv w0 p gp gh gr (.pointer q) n (r + 1) es s' wr)) := fun V k' h1 h2 => by
      rw [hk]
      have := (leastOf_spec h1).2
      omega
    clear hk hk0 HK
    obtain ⟨s, T, ov, sv, hRS, b, hsuf, hlen, hw⟩ := hI
    cases T with
    | nil =>
      cases hRS
      have he := empty_any p 5 _ _ _ _ _ wr hw.stk
      have hd0 : decide ((Df.stk []).length = 0) = true := rfl
      rw [hd0] at he
      have HE := Nu.hid he
      have HW := Nu.hid hw
      clear he hw hd0 hsuf hlen b
      go_wp2_with (go_at_call 56; refine HE.out.mono ?_; rintro e w2 ⟨rfl, rfl⟩)
      go_end0
      exact ⟨rfl, ov, sv, HW.out⟩
    | cons L T =>
      cases hRS with
      | cons h1 h2 =>
      rename_i j k1 s1
      rw [Df.stk_cons] at hw
      have hTl : (Df.stk T).length ≤ 17592186044000 := by rw [Df.stk_len]; simp at hlen; omega
      have he := empty_any p 5 _ _ _ _ _ wr hw.stk
      have hd0 : decide ((Df.stk T ++ [Df.hd L]).length = 0) = false := by simp
      rw [hd0] at he
      have HE := Nu.hid he
      have hpop := (pop_any p 5 _ _ _ _ (Df.stk T) (Df.hd L) wr hw.stk hTl).mono (R' := fun e w' => e = .returned (.int .i64 (Df.hd L)) ∧ ∃ sv', WalkAt w0 w' p gp gh gr (.pointer q) ov sv' n es.length s (Df.stk T)) (fun e w' hp => ⟨hp.1, hw.popped hp⟩)
      have HPOP := Nu.hid hpop
      clear he hpop hw hd0
      cases L with
      | nil =>
        cases h1
        have hTI : ∀ V sv', WalkAt w0 V p gp gh gr (.pointer q) ov sv' n es.length s (Df.stk T) → TInv w0 p gp gh gr (.pointer q) n (r + 1) es s' V k1 := fun V sv' h => ⟨s, T, ov, sv', h2, b, fun L hL => hsuf L (List.mem_cons_of_mem _ hL), by simp at hlen; omega, h⟩
        have HTI := Nu.hid hTI
        have HLT : Hid (k1 < 0 + k1 + 1) := show k1 < 0 + k1 + 1 by omega
        unfold Df.hd at HPOP
        clear hTI h2 b hsuf hlen hTl
        go_wp2_with (first | (go_at_call 56; refine HE.out.mono ?_; rintro e w2 ⟨rfl, rfl⟩) | (go_at_call 57; refine HPOP.out.mono ?_; rintro e w3 ⟨rfl, sv3, h3⟩; have HT3 := Nu.hid (HTI.out w3 sv3 h3); clear h3))
        go_roundw
        case rel => exact ⟨_, HT3.out⟩
        case measure => exact HLESS.out _ _ HT3.out HLT.out
      | cons h L =>
        obtain ⟨hh, hsL, haft⟩ := (hsuf _ List.mem_cons_self).step
        have hval := HADJ.out.val hh
        have hsT : ∀ X ∈ L :: T, Df.Suf n es X := fun X hX => by
          rcases List.mem_cons.1 hX with rfl | hX
          · exact hsL
          · exact hsuf X (List.mem_cons_of_mem _ hX)
        have hlen' : T.length + 1 + s.left ≤ es.length + 1 := by simpa using hlen
        unfold Df.hd at HPOP
        have hne : (((h : Nat) : Int) == -1) = false := by simp only [beq_eq_false_iff_ne, ne_eq]; omega
        have HPU : Hid (∀ V sv', WalkAt w0 V p gp gh gr (.pointer q) ov sv' n es.length s (Df.stk T) → (∀ U, Below V.heap.size V U → Calls Try.prog 59 #[.pointer q, .int .i64 (h : Int)] U fun e U' => e = .returned (.int .i64 (Df.hd L)) ∧ Below U.heap.size U U') ∧ (∀ U, Below V.heap.size V U → Calls Try.prog 58 #[.pointer (some ⟨p, 5, none⟩), .int .i64 (Df.hd L)] U fun e U' => e = .returned (.tuple #[]) ∧ (∃ sv, WalkAt w0 U' p gp gh gr (.pointer q) ov sv n es.length s (Df.stk (L :: T))) ∧ U'.cell? ⟨p, 0, none⟩ = some (.pointer q)) ∧ ∀ U, Below V.heap.size V U → U.cell? ⟨p, 0, none⟩ = some (.pointer q)) := fun V sv' hV => by
          refine ⟨fun U hU => ?_, fun U hU => ?_, fun U hU => (hV.later hU).c0⟩
          · have := after_any _ n es h U (HADJ.out.later (hV.bel.trans (hU.mono hV.bel.size)))
            rw [haft] at this
            exact this.mono (by rintro e U' ⟨rfl, k, rfl⟩; exact ⟨rfl, below_drewN (Below.refl _ _) k⟩)
          · have hU2 := hV.later hU
            refine (push_any p 5 _ _ _ _ (Df.stk T) (Df.hd L) U hU2.stk hU2.bel.size hTl).mono ?_
            intro e U' hp
            obtain ⟨sv2, h2⟩ := hU2.pushed hp
            rw [← Df.stk_cons] at h2
            exact ⟨hp.1, ⟨sv2, h2⟩, h2.c0⟩
        have hord := b.hr
        have hL2 : (Df.stk (L :: T)).length ≤ 17592186044000 := by rw [Df.stk_len]; simp; omega
        have HWK : Hid (∀ V sv', WalkAt w0 V p gp gh gr (.pointer q) ov sv' n es.length s (Df.stk (L :: T)) → Calls Try.prog 60 #[.pointer (some ⟨p, 0, none⟩), .int .i64 (h : Int)] V fun e w' => e = .returned (.bool (s.dir (h / 2) != -1)) ∧ w' = V) := fun V sv' hV => walked_any h hV b.lo hh hbm
        have HLE : Hid (∀ a : Nat, a < j → a + k1 + 1 < j + k1 + 1) := fun a ha => by omega
        cases h1 with
        | old hw hr' =>
          rename_i kk
          have hb : (s.dir (h / 2) != -1) = true := by simpa using hw
          rw [hb] at HWK
          have HTI : Hid (∀ V sv', WalkAt w0 V p gp gh gr (.pointer q) ov sv' n es.length s (Df.stk (L :: T)) → TInv w0 p gp gh gr (.pointer q) n (r + 1) es s' V (kk + k1 + 1)) := fun V sv' hV => ⟨s, L :: T, ov, sv', .cons hr' h2, b, hsT, hlen', hV⟩
          clear hw hr' h2 b hsuf hsL hsT hlen hlen' haft hval hord hTl hL2 hb
          go_wp2_with (first | (go_at_call 56; refine HE.out.mono ?_; rintro e w2 ⟨rfl, rfl⟩) | (go_at_call 57; refine HPOP.out.mono ?_; rintro e w3 ⟨rfl, sv3, h3⟩; obtain ⟨HA, HP, HC⟩ := HPU.out w3 sv3 h3; have HA' := Nu.hid HA; have HP' := Nu.hid HP; have HC' := Nu.hid HC; have hbd : Below w3.heap.size w3 w3.drew := (Below.refl _ _).drew; clear HA HP HC h3))
          go_region_held3 (fun V => V.cell? ⟨p, 0, none⟩ = some (.pointer q))
            (first | exact HC'.out _ (by first | assumption | exact hbd) | assumption)
            ((first
              | (go_at_call 59; refine (HA'.out _ (by first | assumption | exact hbd)).mono ?_; rintro e V1 ⟨rfl, hv1⟩; have hb1 : Below w3.heap.size w3 V1 := Below.trans (by first | assumption | exact hbd) (hv1.mono (Below.size (by first | assumption | exact hbd))))
              | (go_at_call 58; refine (HP'.out _ (by first | assumption | exact hbd)).mono ?_; rintro e V2 ⟨rfl, hv2, hs2⟩)))
          obtain ⟨sv4, h4⟩ := hv2
          have HW4 := Nu.hid (HWK.out V2 sv4 h4)
          have HT4 := Nu.hid (HTI.out V2 sv4 h4)
          clear h4 hs2
          go_wp2_with (go_at_call 60; refine HW4.out.mono ?_; rintro e w5 ⟨rfl, rfl⟩)
          go_roundw
          case rel => exact ⟨_, HT4.out⟩
          case measure => exact HLESS.out _ _ HT4.out (HLE.out _ (by omega))
        | back hw hv' hr' =>
          rename_i kk
          have hb : (s.dir (h / 2) != -1) = false := by simpa using hw
          rw [hb] at HWK
          have hm := Df.left_mark b hh hw
          have HTI : Hid (∀ V ov' sv', WalkAt w0 V p gp gh gr (.pointer q) ov' sv' n es.length (s.mark h) (Df.stk (L :: T)) → TInv w0 p gp gh gr (.pointer q) n (r + 1) es s' V (kk + k1 + 1)) := fun V ov' sv' hV => ⟨s.mark h, L :: T, ov', sv', .cons hr' h2, b.mark hh hw, hsT, by simp; omega, hV⟩
          have HWA : Hid (∀ V sv', WalkAt w0 V p gp gh gr (.pointer q) ov sv' n es.length s (Df.stk (L :: T)) → Calls Try.prog 61 #[.pointer (some ⟨p, 0, none⟩), .int .i64 (h : Int)] V (WPost w0 p gp gh gr (.pointer q) n es (s.mark h) (Df.stk (L :: T)))) := fun V sv' hV => walk_back h HADJ.out hV b hh hv'
          clear hw hv' hr' h2 b hsuf hsL hsT hlen hlen' haft hval hord hTl hL2 hb hm
          go_wp2_with (first | (go_at_call 56; refine HE.out.mono ?_; rintro e w2 ⟨rfl, rfl⟩) | (go_at_call 57; refine HPOP.out.mono ?_; rintro e w3 ⟨rfl, sv3, h3⟩; obtain ⟨HA, HP, HC⟩ := HPU.out w3 sv3 h3; have HA' := Nu.hid HA; have HP' := Nu.hid HP; have HC' := Nu.hid HC; have hbd : Below w3.heap.size w3 w3.drew := (Below.refl _ _).drew; clear HA HP HC h3))
          go_region_held3 (fun V => V.cell? ⟨p, 0, none⟩ = some (.pointer q))
            (first | exact HC'.out _ (by first | assumption | exact hbd) | assumption)
            ((first
              | (go_at_call 59; refine (HA'.out _ (by first | assumption | exact hbd)).mono ?_; rintro e V1 ⟨rfl, hv1⟩; have hb1 : Below w3.heap.size w3 V1 := Below.trans (by first | assumption | exact hbd) (hv1.mono (Below.size (by first | assumption | exact hbd))))
              | (go_at_call 58; refine (HP'.out _ (by first | assumption | exact hbd)).mono ?_; rintro e V2 ⟨rfl, hv2, hs2⟩)))
          obtain ⟨sv4, h4⟩ := hv2
          have HW4 := Nu.hid (HWK.out V2 sv4 h4)
          have HW5 := Nu.hid (HWA.out V2 sv4 h4)
          clear h4 hs2
          go_wp2_with (first | (go_at_call 60; refine HW4.out.mono ?_; rintro e w5 ⟨rfl, rfl⟩) | (go_at_call 61; refine HW5.out.mono ?_; rintro e w6 ⟨rfl, ov6, sv6, h6⟩; have HT6 := Nu.hid (HTI.out w6 ov6 sv6 h6); clear h6))
          go_roundw
          case rel => exact ⟨_, HT6.out⟩
          case measure => exact HLESS.out _ _ HT6.out (HLE.out _ (by omega))
        | tree hw hv' hr1 hr2 =>
          rename_i kj kk s2
          have hb : (s.dir (h / 2) != -1) = false := by simpa using hw
          rw [hb] at HWK
          have hm := Df.left_mark b hh hw
          have ht := (Cs.half_lt hval hh).2
          have hlg : (s.go es h).left = (s.mark h).left := rfl
          have HTI : Hid (∀ V ov' sv', WalkAt w0 V p gp gh gr (.pointer q) ov' sv' n es.length (s.go es h) (Df.stk (L :: T) ++ [Cs.firstI n es (Cs.to es h)]) → TInv w0 p gp gh gr (.pointer q) n (r + 1) es s' V (kj + (kk + k1 + 1) + 1)) := fun V ov' sv' hV => by
            rw [Df.first_hd ht, ← Df.stk_cons] at hV
            refine ⟨s.go es h, Cs.out es (Cs.to es h) (2 * es.length) :: L :: T, ov', sv', .cons hr1 (.cons hr2 h2), b.go hval hh hw, fun X hX => ?_, by simp; omega, hV⟩
            rcases List.mem_cons.1 hX with rfl | hX
            · exact Df.Suf.all ht
            · exact hsT X hX
          have HWA : Hid (∀ V sv', WalkAt w0 V p gp gh gr (.pointer q) ov sv' n es.length s (Df.stk (L :: T)) → Calls Try.prog 61 #[.pointer (some ⟨p, 0, none⟩), .int .i64 (h : Int)] V (WPost w0 p gp gh gr (.pointer q) n es (s.go es h) (Df.stk (L :: T) ++ [Cs.firstI n es (Cs.to es h)]))) := fun V sv' hV => walk_tree h HADJ.out hV b hh hv' (by omega) hL2
          clear hw hv' hr1 hr2 h2 b hsuf hsL hsT hlen hlen' haft hval hord hTl hL2 hb hm ht hlg
          go_wp2_with (first | (go_at_call 56; refine HE.out.mono ?_; rintro e w2 ⟨rfl, rfl⟩) | (go_at_call 57; refine HPOP.out.mono ?_; rintro e w3 ⟨rfl, sv3, h3⟩; obtain ⟨HA, HP, HC⟩ := HPU.out w3 sv3 h3; have HA' := Nu.hid HA; have HP' := Nu.hid HP; have HC' := Nu.hid HC; have hbd : Below w3.heap.size w3 w3.drew := (Below.refl _ _).drew; clear HA HP HC h3))
          go_region_held3 (fun V => V.cell? ⟨p, 0, none⟩ = some (.pointer q))
            (first | exact HC'.out _ (by first | assumption | exact hbd) | assumption)
            ((first
              | (go_at_call 59; refine (HA'.out _ (by first | assumption | exact hbd)).mono ?_; rintro e V1 ⟨rfl, hv1⟩; have hb1 : Below w3.heap.size w3 V1 := Below.trans (by first | assumption | exact hbd) (hv1.mono (Below.size (by first | assumption | exact hbd))))
              | (go_at_call 58; refine (HP'.out _ (by first | assumption | exact hbd)).mono ?_; rintro e V2 ⟨rfl, hv2, hs2⟩)))
          obtain ⟨sv4, h4⟩ := hv2
          have HW4 := Nu.hid (HWK.out V2 sv4 h4)
          have HW5 := Nu.hid (HWA.out V2 sv4 h4)
          clear h4 hs2
          go_wp2_with (first | (go_at_call 60; refine HW4.out.mono ?_; rintro e w5 ⟨rfl, rfl⟩) | (go_at_call 61; refine HW5.out.mono ?_; rintro e w6 ⟨rfl, ov6, sv6, h6⟩; have HT6 := Nu.hid (HTI.out w6 ov6 sv6 h6); clear h6))
          go_roundw
          case rel => exact ⟨_, HT6.out⟩
          case measure => exact HLESS.out _ _ HT6.out (show kj + (kk + k1 + 1) + 1 < kj + kk + 2 + k1 + 1 by omega)
end

end Go.Proofs.Ytponmjipbcmlhaa
