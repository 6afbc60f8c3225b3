import Derived.Test.YtjlfdkeklilafabMg15
/-
  A finder that begins.
-/
namespace Go.Proofs.Ytjlfdkeklilafab
open Go.RowKit Go.Sort AnyOrd

def NewFiPost (n : Nat) (ao : Option Addr) (ca : Nat) (es : List (Int × Int)) (w : World) (e : Ending) (w' : World) : Prop :=
  ∃ p gf ga gl F An, e = .returned (.pointer (some ⟨p, 0, none⟩)) ∧ FiAt w' w.heap.size p gf ga gl n ao ca es F An (List.replicate n (-1)) ∧ Ro.Fi n es F An (2 * es.length) ∧ Below w.heap.size w w'

theorem below_al {w V : World} (h : Below w.heap.size w V) (o : Obj) : Below w.heap.size w (V.alloc o) := h.alloc h.size o
theorem cell_drew {W : World} {p : Addr} {x : Option Value} (h : W.cell? p = x) : W.drew.cell? p = x := h
theorem cell_al {W : World} {p : Addr} {x : Value} (h : W.cell? p = some x) (o : Obj) : (W.alloc o).cell? p = some x := (((Below.refl _ W).alloc (Nat.le_refl _) o).cell (p := p) (block_lt_of_cell h)).trans h
theorem cell_lit (W : World) (x : Value) (t : TypeId) : (W.alloc (.cells #[x] t)).cell? ⟨W.heap.size, 0, none⟩ = some x := cell_of_one (heap_alloc_new W _)

theorem gives_rep {n lo : Nat} {U : World} {o : Oper} {ev : Operand → Value} (hc : Calls Try.prog 48 #[.slice (some ⟨lo, 0, none⟩) 1 1, .int .i64 (n : Int)] U (RepPost (-1) n U))
    (h : (execOp ev o).run Try.prog U = .ok (.enter 48 #[.slice (some ⟨lo, 0, none⟩) 1 1, .int .i64 (n : Int)]) U) :
    Gives Try.prog o ev U fun v w' => Below U.heap.size U w' ∧ ∃ g, v = .slice (some ⟨g, 0, none⟩) n n ∧ U.heap.size ≤ g ∧ g < w'.heap.size ∧ IntsBlk w' g (List.replicate n (-1)) := by
  unfold Gives
  rw [h]
  refine hc.mono ?_
  rintro e w' ⟨g, rfl, h1, h2, h3⟩
  exact ⟨_, rfl, h3, g, rfl, h1, h2.lt, h2⟩

/-- What the operations give that make a finder, in any order. -/
def nfSpec (n M b : Nat) (ao : Option Addr) (m ca : Nat) : Nat → OpSpec
  | 0 => ⟨[], fun v _ _ _ _ => v = .agg #[.int .i64 (n : Int), .slice ao m ca]⟩
  | 1 => ⟨[], fun v _ lo hi w => v = .slice (some ⟨lo, 0, none⟩) 1 1 ∧ lo < hi ∧ w.heap[lo]? = some (.cells #[.int .i64 (-1)] 3 (0, 0))⟩
  | 2 => ⟨[], fun v _ _ _ _ => v = .pointer (some ⟨b, 0, none⟩)⟩
  | 3 => ⟨[2], fun v _ _ _ _ => v = .int .i64 (n : Int)⟩
  | 4 => ⟨[1, 3], fun v _ lo hi w => ∃ g, v = .slice (some ⟨g, 0, none⟩) n n ∧ lo ≤ g ∧ g < hi ∧ IntsBlk w g (List.replicate n (-1))⟩
  | 5 => ⟨[], fun v _ _ _ _ => v = .pointer (some ⟨b, 1, none⟩)⟩
  | 6 => ⟨[5], fun v _ _ _ _ => v = .slice ao m ca⟩
  | 7 => ⟨[6], fun v _ _ _ _ => v = .int .i64 (m : Int)⟩
  | 8 => ⟨[7], fun v _ _ _ _ => v = .int .i64 (M : Int)⟩
  | 9 => ⟨[8], fun v _ lo hi w => v = .slice (some ⟨lo, 0, none⟩) M M ∧ lo < hi ∧ IntsBlk w lo (List.replicate M 0)⟩
  | 10 => ⟨[], fun v _ lo hi w => v = .slice (some ⟨lo, 0, none⟩) 1 1 ∧ lo < hi ∧ w.heap[lo]? = some (.cells #[.int .i64 (-1)] 3 (0, 0))⟩
  | 11 => ⟨[], fun v _ _ _ _ => v = .pointer (some ⟨b, 0, none⟩)⟩
  | 12 => ⟨[11], fun v _ _ _ _ => v = .int .i64 (n : Int)⟩
  | 13 => ⟨[10, 12], fun v _ lo hi w => ∃ g, v = .slice (some ⟨g, 0, none⟩) n n ∧ lo ≤ g ∧ g < hi ∧ IntsBlk w g (List.replicate n (-1))⟩
  | 14 => ⟨[0, 4, 9, 13], fun v vs _ _ _ => ∃ x1 x2 x3 x4, vs = [x1, x2, x3, x4] ∧ v = .agg #[.int .i64 (n : Int), .slice ao m ca, x2, x3, x4]⟩
  | 15 => ⟨[14], fun v vs lo hi w => ∃ x2 x3 x4, vs = [.agg #[.int .i64 (n : Int), .slice ao m ca, x2, x3, x4]] ∧ v = .pointer (some ⟨lo, 0, none⟩) ∧ lo < hi ∧ w.heap[lo]? = some (.cells #[.int .i64 (n : Int), .slice ao m ca, x2, x3, x4] 79 (0, 0))⟩
  | _ => ⟨[15], fun v vs _ _ _ => vs = [v]⟩

set_option maxRecDepth 100000 in
set_option maxHeartbeats 16000000 in
theorem newFinder_any (n : Nat) (ao : Option Addr) (ca : Nat) (es : List (Int × Int)) (w : World) (he : EdgesAt w ao es) (hv : Si.Val n es) :
    Calls Try.prog 35 #[.agg #[.int .i64 (n : Int), .slice ao es.length ca]] w (NewFiPost n ao ca es w) := by
  obtain ⟨i0, hi, hz0, hz1, hz2⟩ := info_parts Try.infoNum
  obtain ⟨w0, hw0⟩ : ∃ w0, w0 = w.alloc (.cells #[.int .i64 (n : Int), .slice ao es.length ca] 24) := ⟨_, rfl⟩
  have hb0 : Below w.heap.size w w0 := by rw [hw0]; exact (Below.refl _ _).alloc (Nat.le_refl _) _
  have hG0 : w0.heap[w.heap.size]? = some (.cells #[.int .i64 (n : Int), .slice ao es.length ca] 24 (0, 0)) := by rw [hw0]; exact heap_alloc_new w _
  have hs0 := lt_of_block hG0
  obtain ⟨g0, g1, -⟩ := pair_cells hG0
  have hhi := hv.hi
  have hfew := hv.few
  obtain ⟨M, hM⟩ : ∃ M, M = 2 * es.length := ⟨_, rfl⟩
  have hmul : IntKind.i64.wrap (2 * (es.length : Int)) = (M : Int) := by rw [IntKind.wrap_i64]; omega
  have hmul2 : 2 * (es.length : Int) = (M : Int) := by omega
  have hwM : IntKind.i64.wrap (M : Int) = (M : Int) := by rw [IntKind.wrap_i64]; omega
  have hMb : M ≤ 8388608 := by omega
  have hM0 : ¬ (M : Int) < 0 := by omega
  have hmk : ∀ W, (Instr.makeSlice 39 (.int .i64 (M : Int)) (.int .i64 (M : Int))).run Try.prog W = .ok (.slice (some ⟨W.heap.size, 0, none⟩) M M) (W.alloc (.cells (madeCells #[.int .i64 0] M) 3)) := fun W => by
    have := run_make (P := Try.prog) W 39 3 i0 (.int .i64 0) Try.underlying39 hi hz0 .i64 .i64 (M : Int) (M : Int) (by omega) (by omega) (by rw [hz2]; omega) (by omega)
    rw [this, hz1]
    simp [Value.cells]
  have HREP : Hid (∀ (b : Nat) (V : World), V.cell? ⟨b, 0, none⟩ = some (.int .i64 (-1)) → Calls Try.prog 48 #[.slice (some ⟨b, 0, none⟩) 1 1, .int .i64 (n : Int)] V (RepPost (-1) n V)) := fun b V h => repeat_any (-1) b n V h (by omega)
  have HMK := Nu.hid hmk
  have HS : Hid (∀ V, Below w0.heap.size w0 V → V.cell? ⟨w.heap.size, 0, none⟩ = some (.int .i64 (n : Int)) ∧ V.cell? ⟨w.heap.size, 1, none⟩ = some (.slice ao es.length ca) ∧ Below w0.heap.size w0 V) := fun V hV => ⟨(hV.cell (p := ⟨w.heap.size, 0, none⟩) hs0).trans g0, (hV.cell (p := ⟨w.heap.size, 1, none⟩) hs0).trans g1, hV⟩
  have HD : Hid (Below w0.heap.size w0 w0.drew) := (Below.refl _ _).drew
  have HMM := Nu.hid hM
  have HW0 := Nu.hid hw0
  have HE := Nu.hid he
  have HV := Nu.hid hv
  have HB0 := Nu.hid hb0
  have HG0 := Nu.hid hG0
  clear hM hi hz0 hz1 hz2 he hv hb0 hG0
  clear hmk hmul2 hmul
  obtain ⟨m, hm⟩ : ∃ m, m = es.length := ⟨_, rfl⟩
  have hmulm : IntKind.i64.wrap (2 * (m : Int)) = (M : Int) := by rw [IntKind.wrap_i64]; have := HMM.out; omega
  rw [← hm] at g1 HS ⊢
  rw [← hm] at HW0
  have HMS := Nu.hid hm
  clear hm
  go_enter Try.func35, Try.ntmps35
  go_wp2_with fail
  rw [← HW0.out]
  clear hw0
  refine wp_region_any (by kernel_rfl) ?_
  have hbW : Below w0.heap.size w0 { w0 with drawn := w0.drawn + 1 } := (Below.refl _ _).drew
  refine AnyOrd.anyF (nfSpec n M w.heap.size ao m ca) 17 55 (by decide) rfl (by kernel_rfl) ?_ ?_ ?_
  · intro i hi v vs lo hi' U U' h1 h2 h3
    have hc : i = 0 ∨ i = 1 ∨ i = 2 ∨ i = 3 ∨ i = 4 ∨ i = 5 ∨ i = 6 ∨ i = 7 ∨ i = 8 ∨ i = 9 ∨ i = 10 ∨ i = 11 ∨ i = 12 ∨ i = 13 ∨ i = 14 ∨ i = 15 ∨ i = 16 := by omega
    rcases hc with rfl | rfl | rfl | rfl | rfl | rfl | rfl | rfl | rfl | rfl | rfl | rfl | rfl | rfl | rfl | rfl | rfl
    all_goals first | exact h3 | skip
    · exact ⟨h3.1, h3.2.1, (h2.block lo (Nat.lt_of_lt_of_le h3.2.1 h1)).trans h3.2.2⟩
    · obtain ⟨g, q1, q2, q3, q4⟩ := h3
      exact ⟨g, q1, q2, q3, q4.later h2⟩
    · exact ⟨h3.1, h3.2.1, h3.2.2.later h2⟩
    · exact ⟨h3.1, h3.2.1, (h2.block lo (Nat.lt_of_lt_of_le h3.2.1 h1)).trans h3.2.2⟩
    · obtain ⟨g, q1, q2, q3, q4⟩ := h3
      exact ⟨g, q1, q2, q3, q4.later h2⟩
    · obtain ⟨x2, x3, x4, q1, q2, q3, q4⟩ := h3
      exact ⟨x2, x3, x4, q1, q2, q3, (h2.block lo (Nat.lt_of_lt_of_le q3 h1)).trans q4⟩
  · intro i o ρ U ev hi ho hb hd he1 he2 hec hef
    obtain ⟨c0, c1, -⟩ := HS.out U (hbW.trans hb)
    have hc : i = 0 ∨ i = 1 ∨ i = 2 ∨ i = 3 ∨ i = 4 ∨ i = 5 ∨ i = 6 ∨ i = 7 ∨ i = 8 ∨ i = 9 ∨ i = 10 ∨ i = 11 ∨ i = 12 ∨ i = 13 ∨ i = 14 ∨ i = 15 ∨ i = 16 := by omega
    rcases hc with rfl | rfl | rfl | rfl | rfl | rfl | rfl | rfl | rfl | rfl | rfl | rfl | rfl | rfl | rfl | rfl | rfl <;> obtain rfl := Option.some.inj ho
    · have e1 : ev (.tmp 1) = .pointer (some ⟨w.heap.size, 0, none⟩) := he2 1 (by kernel_rfl)
      exact gives_value (v := .agg #[.int .i64 (n : Int), .slice ao m ca]) (w' := U) (by simp [execOp, go_sem, e1, c0, c1]) ⟨Below.refl _ _, rfl⟩
    · refine gives_value (v := .slice (some ⟨U.heap.size, 0, none⟩) 1 1) (w' := U.alloc (.cells #[.int .i64 (-1)] 3)) ?_ ⟨(Below.refl _ _).alloc (Nat.le_refl _) _, rfl, by simp, heap_alloc_new _ _⟩
      simp [execOp, go_sem, hec]
    · have e1 : ev (.tmp 1) = .pointer (some ⟨w.heap.size, 0, none⟩) := he2 1 (by kernel_rfl)
      exact gives_value (v := .pointer (some ⟨w.heap.size, 0, none⟩)) (w' := U) (by simp [execOp, go_sem, e1]) ⟨Below.refl _ _, rfl⟩
    · obtain ⟨_, _, _, _, _, r4⟩ := hd 2 (by simp [nfSpec])
      have r5 : ρ 2 = .pointer (some ⟨w.heap.size, 0, none⟩) := r4
      exact gives_value (v := .int .i64 (n : Int)) (w' := U) (by simp [execOp, go_sem, he1 2 8 (by omega) rfl (by decide), r5, c0]) ⟨Below.refl _ _, rfl⟩
    · obtain ⟨lo, hi', q1, q2, q3, r1, r2, r3⟩ := hd 1 (by simp [nfSpec])
      obtain ⟨_, _, _, _, _, r4⟩ := hd 3 (by simp [nfSpec])
      have r5 : ρ 3 = .int .i64 (n : Int) := r4
      have r1' : ρ 1 = .slice (some ⟨lo, 0, none⟩) 1 1 := r1
      exact gives_rep (HREP.out lo U (cell_of_one r3)) (by simp [execOp, go_sem, hef, he1 1 7 (by omega) rfl (by decide), he1 3 9 (by omega) rfl (by decide), r1', r5])
    · have e1 : ev (.tmp 1) = .pointer (some ⟨w.heap.size, 0, none⟩) := he2 1 (by kernel_rfl)
      exact gives_value (v := .pointer (some ⟨w.heap.size, 1, none⟩)) (w' := U) (by simp [execOp, go_sem, e1]) ⟨Below.refl _ _, rfl⟩
    · obtain ⟨_, _, _, _, _, r4⟩ := hd 5 (by simp [nfSpec])
      have r5 : ρ 5 = .pointer (some ⟨w.heap.size, 1, none⟩) := r4
      exact gives_value (v := .slice ao m ca) (w' := U) (by simp [execOp, go_sem, he1 5 11 (by omega) rfl (by decide), r5, c1]) ⟨Below.refl _ _, rfl⟩
    · obtain ⟨_, _, _, _, _, r4⟩ := hd 6 (by simp [nfSpec])
      have r5 : ρ 6 = .slice ao m ca := r4
      exact gives_value (v := .int .i64 (m : Int)) (w' := U) (by simp [execOp, go_sem, he1 6 12 (by omega) rfl (by decide), r5]) ⟨Below.refl _ _, rfl⟩
    · obtain ⟨_, _, _, _, _, r4⟩ := hd 7 (by simp [nfSpec])
      have r5 : ρ 7 = .int .i64 (m : Int) := r4
      exact gives_value (v := .int .i64 (M : Int)) (w' := U) (by simp [execOp, go_sem, hec, he1 7 13 (by omega) rfl (by decide), r5, hmulm]) ⟨Below.refl _ _, rfl⟩
    · obtain ⟨_, _, _, _, _, r4⟩ := hd 8 (by simp [nfSpec])
      have r5 : ρ 8 = .int .i64 (M : Int) := r4
      refine gives_value (v := .slice (some ⟨U.heap.size, 0, none⟩) M M) (w' := U.alloc (.cells (madeCells #[.int .i64 0] M) 3)) ?_ ⟨(Below.refl _ _).alloc (Nat.le_refl _) _, rfl, by simp, made_blk rfl⟩
      simp [execOp, he1 8 14 (by omega) rfl (by decide), r5, HMK.out U]
    · refine gives_value (v := .slice (some ⟨U.heap.size, 0, none⟩) 1 1) (w' := U.alloc (.cells #[.int .i64 (-1)] 3)) ?_ ⟨(Below.refl _ _).alloc (Nat.le_refl _) _, rfl, by simp, heap_alloc_new _ _⟩
      simp [execOp, go_sem, hec]
    · have e1 : ev (.tmp 1) = .pointer (some ⟨w.heap.size, 0, none⟩) := he2 1 (by kernel_rfl)
      exact gives_value (v := .pointer (some ⟨w.heap.size, 0, none⟩)) (w' := U) (by simp [execOp, go_sem, e1]) ⟨Below.refl _ _, rfl⟩
    · obtain ⟨_, _, _, _, _, r4⟩ := hd 11 (by simp [nfSpec])
      have r5 : ρ 11 = .pointer (some ⟨w.heap.size, 0, none⟩) := r4
      exact gives_value (v := .int .i64 (n : Int)) (w' := U) (by simp [execOp, go_sem, he1 11 17 (by omega) rfl (by decide), r5, c0]) ⟨Below.refl _ _, rfl⟩
    · obtain ⟨lo, hi', q1, q2, q3, r1, r2, r3⟩ := hd 10 (by simp [nfSpec])
      obtain ⟨_, _, _, _, _, r4⟩ := hd 12 (by simp [nfSpec])
      have r5 : ρ 12 = .int .i64 (n : Int) := r4
      have r1' : ρ 10 = .slice (some ⟨lo, 0, none⟩) 1 1 := r1
      exact gives_rep (HREP.out lo U (cell_of_one r3)) (by simp [execOp, go_sem, hef, he1 10 16 (by omega) rfl (by decide), he1 12 18 (by omega) rfl (by decide), r1', r5])
    · obtain ⟨_, _, _, _, _, r0⟩ := hd 0 (by simp [nfSpec])
      obtain ⟨_, _, _, _, _, ga, ra, _⟩ := hd 4 (by simp [nfSpec])
      obtain ⟨_, _, _, _, _, rb, _⟩ := hd 9 (by simp [nfSpec])
      obtain ⟨_, _, _, _, _, gc, rc, _⟩ := hd 13 (by simp [nfSpec])
      have r0' : ρ 0 = .agg #[.int .i64 (n : Int), .slice ao m ca] := r0
      exact gives_value (v := .agg #[.int .i64 (n : Int), .slice ao m ca, ρ 4, ρ 9, ρ 13]) (w' := U) (by simp [execOp, go_sem, he1 0 6 (by omega) rfl (by decide), he1 4 10 (by omega) rfl (by decide), he1 9 15 (by omega) rfl (by decide), he1 13 19 (by omega) rfl (by decide), r0', ra, rb, rc]) ⟨Below.refl _ _, _, _, _, _, rfl, rfl⟩
    · obtain ⟨_, _, _, _, _, x1, x2, x3, x4, q1, q2⟩ := hd 14 (by simp [nfSpec])
      have q2' : ρ 14 = .agg #[.int .i64 (n : Int), .slice ao m ca, x2, x3, x4] := q2
      refine gives_value (v := .pointer (some ⟨U.heap.size, 0, none⟩)) (w' := U.alloc (.cells #[.int .i64 (n : Int), .slice ao m ca, x2, x3, x4] 79)) ?_ ⟨(Below.refl _ _).alloc (Nat.le_refl _) _, x2, x3, x4, by show [ρ 14] = _; rw [q2'], rfl, by simp, heap_alloc_new _ _⟩
      simp [execOp, go_sem, he1 14 20 (by omega) rfl (by decide), q2']
    · obtain ⟨_, _, _, _, _, x2, x3, x4, _, rp, _⟩ := hd 15 (by simp [nfSpec])
      exact gives_value (v := ρ 15) (w' := U) (by simp [execOp, go_sem, he1 15 21 (by omega) rfl (by decide)]) ⟨Below.refl _ _, rfl⟩
  · intro ρ lo hi V a ha hdef he1 he2 hb hd hdis
    have hfr2 : a = { tmps := #[.agg #[.int .i64 (n : Int), .slice ao m ca], .pointer (some ⟨w.heap.size, 0, none⟩), .pointer none, ρ 16, undef, undef, ρ 0, ρ 1, ρ 2, ρ 3, ρ 4, ρ 5, ρ 6, ρ 7, ρ 8, ρ 9, ρ 10, ρ 11, ρ 12, ρ 13, ρ 14, ρ 15, undef, undef, undef, undef, undef, undef, undef, undef, undef, undef, undef, undef, undef, undef, undef, undef, undef, undef, undef, undef, undef, undef, undef, undef, undef, undef, undef, undef, undef, undef, undef, undef, undef], defers := [] } := by rw [ha]; kernel_rfl
    have hb2 : Below w0.heap.size w0 V := hbW.trans hb
    have r0 : ρ 0 = .agg #[.int .i64 (n : Int), .slice ao m ca] := (hd 0 (by omega)).2.2.2
    obtain ⟨a1, a2, a3, r1, _, _⟩ := hd 1 (by omega)
    have r1' : ρ 1 = .slice (some ⟨lo 1, 0, none⟩) 1 1 := r1
    have r2 : ρ 2 = .pointer (some ⟨w.heap.size, 0, none⟩) := (hd 2 (by omega)).2.2.2
    have r3 : ρ 3 = .int .i64 (n : Int) := (hd 3 (by omega)).2.2.2
    obtain ⟨p4, p5, p6, gf, r4, f1, f2, f3⟩ := hd 4 (by omega)
    have r4' : ρ 4 = .slice (some ⟨gf, 0, none⟩) n n := r4
    have r5 : ρ 5 = .pointer (some ⟨w.heap.size, 1, none⟩) := (hd 5 (by omega)).2.2.2
    have r6 : ρ 6 = .slice ao m ca := (hd 6 (by omega)).2.2.2
    have r7 : ρ 7 = .int .i64 (m : Int) := (hd 7 (by omega)).2.2.2
    have r8 : ρ 8 = .int .i64 (M : Int) := (hd 8 (by omega)).2.2.2
    obtain ⟨p7, p8, p9, r9, b1, b2⟩ := hd 9 (by omega)
    have r9' : ρ 9 = .slice (some ⟨lo 9, 0, none⟩) M M := r9
    obtain ⟨_, _, _, r10, _, _⟩ := hd 10 (by omega)
    have r10' : ρ 10 = .slice (some ⟨lo 10, 0, none⟩) 1 1 := r10
    have r11 : ρ 11 = .pointer (some ⟨w.heap.size, 0, none⟩) := (hd 11 (by omega)).2.2.2
    have r12 : ρ 12 = .int .i64 (n : Int) := (hd 12 (by omega)).2.2.2
    obtain ⟨p10, p11, p12, gl, r13, l1, l2, l3⟩ := hd 13 (by omega)
    have r13' : ρ 13 = .slice (some ⟨gl, 0, none⟩) n n := r13
    obtain ⟨_, _, _, x1, x2, x3, x4, y1, y2⟩ := hd 14 (by omega)
    have y1' : [ρ 0, ρ 4, ρ 9, ρ 13] = [x1, x2, x3, x4] := y1
    simp only [List.cons.injEq] at y1'
    obtain ⟨_, e2, e3, e4, _⟩ := y1'
    have r14 : ρ 14 = .agg #[.int .i64 (n : Int), .slice ao m ca, .slice (some ⟨gf, 0, none⟩) n n, .slice (some ⟨lo 9, 0, none⟩) M M, .slice (some ⟨gl, 0, none⟩) n n] := by
      rw [← r4', ← r9', ← r13', e2, e3, e4]
      exact y2
    obtain ⟨p13, p14, p15, z2, z3, z4, u1, r15, u2, u3⟩ := hd 15 (by omega)
    have r15' : ρ 15 = .pointer (some ⟨lo 15, 0, none⟩) := r15
    have u1' : [ρ 14] = [.agg #[.int .i64 (n : Int), .slice ao m ca, z2, z3, z4]] := u1
    rw [r14] at u1'
    simp only [List.cons.injEq, Value.agg.injEq, Array.mk.injEq, and_true, true_and] at u1'
    obtain ⟨d2, d3, d4⟩ := u1'
    subst d2
    subst d3
    subst d4
    have r16 : ρ 16 = .pointer (some ⟨lo 15, 0, none⟩) := by
      have : [ρ 15] = [ρ 16] := (hd 16 (by omega)).2.2.2
      simp only [List.cons.injEq, and_true] at this
      rw [← this]
      exact r15'
    have D49 := hdis 4 9 (by omega) (by omega) (by omega)
    have D413 := hdis 4 13 (by omega) (by omega) (by omega)
    have D415 := hdis 4 15 (by omega) (by omega) (by omega)
    have D913 := hdis 9 13 (by omega) (by omega) (by omega)
    have D915 := hdis 9 15 (by omega) (by omega) (by omega)
    have D1315 := hdis 13 15 (by omega) (by omega) (by omega)
    have p4' : w0.heap.size ≤ lo 4 := p4
    have p7' : w0.heap.size ≤ lo 9 := p7
    have p10' : w0.heap.size ≤ lo 13 := p10
    have p13' : w0.heap.size ≤ lo 15 := p13
    obtain ⟨gA, hgA⟩ : ∃ g, lo 9 = g := ⟨_, rfl⟩
    obtain ⟨p, hp⟩ : ∃ g, lo 15 = g := ⟨_, rfl⟩
    have hFi : FiAt V w0.heap.size p gf gA gl n ao ca es (List.replicate n (-1)) (List.replicate M 0) (List.replicate n (-1)) := by
      have hm := HMS.out
      have hM := HMM.out
      refine ⟨?_, f3, by rw [← hgA]; exact b2, l3, ⟨by omega, by omega, by omega, by omega⟩, ⟨by omega, by omega, by omega, by omega, by omega, by omega⟩⟩
      rw [← hM, ← hm, ← hp, ← hgA]
      exact u3
    rw [hgA] at r9' r14
    rw [hp] at r15' r16
    rw [r0, r1', r2, r3, r4', r5, r6, r7, r8, r9', r10', r11, r12, r13', r14, r15', r16] at hfr2
    have HFI := Nu.hid hFi
    have HBV := Nu.hid hb2
    have HFI0 : Hid (Ro.Fi n es (List.replicate n (-1)) (List.replicate M 0) 0) := by
      have := Ro.Fi.start n es
      rw [← HMM.out] at this
      exact this
    have hsp : w0.heap.size ≤ p := by omega
    clear r0 r1 r1' r2 r3 r4 r4' r5 r6 r7 r8 r9 r9' r10 r10' r11 r12 r13 r13' r14 r15 r15' r16 y1 y2 u1 u3 D49 D413 D415 D913 D915 D1315 hd hdis he1 he2 ha hdef f3 b2 l3 e2 e3 e4 hFi hb2 hb hbW
    refine wpAny_done (by kernel_rfl) ?_ _
    rw [hfr2]
    clear hfr2
    dsimp only
    obtain ⟨c0, c1, c2, c3, c4⟩ := five_cells HFI.out.blk
    have hMM2 : 2 * (m : Int) = (M : Int) := by have := HMM.out; have := HMS.out; omega
    have hmm3 : 2 * es.length = M := HMM.out.symm
    rw [hmm3] at c3
    clear hmulm hmm3
    go_wp2
    clear c0 c1 c2 c3 c4
    go_loopw [27] (fun c wr => ∃ (k : Nat) (F An : List Int), k ≤ M ∧ c = .int .i64 (k : Int) ∧ Ro.Fi n es F An k ∧ FiAt wr w0.heap.size p gf gA gl n ao ca es F An (List.replicate n (-1)) ∧ Below w0.heap.size w0 wr) (fun c _ => M - (intOf c).toNat)
    case atStart => exact ⟨0, _, _, Nat.zero_le _, rfl, HFI0.out, HFI.out, HBV.out⟩
    case round =>
      clear HFI HFI0 HBV
      obtain ⟨k, F, An, hk, rfl, hfi, hf, hb⟩ := hrel
      have HFI := Nu.hid hfi
      have HF := Nu.hid hf
      have HB := Nu.hid hb
      obtain ⟨s0, s1, -⟩ := HS.out wr hb
      clear hfi hf hb
      by_cases hlt : k < M
      · have hlti : (k : Int) < (M : Int) := by omega
        have hkm : k < 2 * es.length := by have := HMM.out; omega
        have hfr := (Cs.half_lt HV.out hkm).1
        have HBG := beginsAt_any n ao ca es k wr (HE.out.later (HB0.out.trans (HB.out.mono HB0.out.size))) HV.out hkm
        rw [← HMS.out] at HBG
        have HBG := Nu.hid HBG
        have HST := Nu.hid (HFI.out.step HV.out hkm)
        obtain ⟨fr, hfre⟩ : ∃ fr, fr = Cs.fr es k := ⟨_, rfl⟩
        rw [← hfre] at hfr HBG HST
        have hfirst := HFI.out.first fr hfr
        obtain ⟨lv, hlv⟩ : ∃ lv, lv = Ro.lo es fr k := ⟨_, rfl⟩
        rw [← hlv] at hfirst HST
        have HFS := Nu.hid hfirst
        have hfr2 : (fr : Int) < (n : Int) := by omega
        clear hfre hlv hfirst
        go_wp2_with (go_at_call 49; refine HBG.out.mono ?_; rintro e w2 ⟨rfl, hb2⟩; refine Hid.out ?_)
        refine Nu.hid ?_
        have hF2 := HF.out.later hb2
        have HB2 := Nu.hid (HB.out.trans (hb2.mono HB.out.size))
        clear hb2 s0 s1
        obtain ⟨c0, c1, c2, c3, c4⟩ := five_cells hF2.blk
        have hmm3 : 2 * es.length = M := HMM.out.symm
        rw [hmm3] at c3
        clear hmm3
        have cfv := hF2.first.cell HFS.out
        obtain ⟨y, hy⟩ : ∃ y, An[k]? = some y := ⟨_, List.getElem?_eq_getElem (by rw [HFI.out.la]; exact hkm)⟩
        have cak := hF2.another.cell hy
        have fak := hF2.another.free k
        have hF3 := hF2.setA k lv
        obtain ⟨d0, d1, d2, d3, d4⟩ := five_cells hF3.blk
        have dfv := hF3.first.cell HFS.out
        have ffv := hF3.first.free fr
        have HF4 := Nu.hid (hF3.setF fr (k : Int))
        have hBg := hF2.lo
        have HBG4 := Nu.hid hBg
        clear hF2 hF3 hy hBg
        go_wp2_with fail
        go_big_region
        go_wp2
        refine ⟨⟨k + 1, F.set fr (k : Int), An.set k lv, by omega, by simp, HST.out, HF4.out.later (Below.refl _ _).drew, ?_⟩, by simp [intOf]; omega⟩
        exact ((HB2.out.trans (below_setCell (g := gA) (j := k) (.int .i64 lv) (by have := HBG4.out; omega))).trans (below_setCell (g := gf) (j := fr) (.int .i64 (k : Int)) (by have := HBG4.out; omega))).drew
      · have hlti : ¬ (k : Int) < (M : Int) := by omega
        obtain rfl : k = M := by omega
        go_wp2
        go_ret
        have h1 := HFI.out
        rw [HMM.out] at h1
        have hlw := HB0.out.size
        exact ⟨p, gf, gA, gl, F, An, rfl, ⟨HF.out.blk, HF.out.first, HF.out.another, HF.out.leading, ⟨by have := HF.out.lo; omega, by have := HF.out.lo; omega, by have := HF.out.lo; omega, by have := HF.out.lo; omega⟩, HF.out.ne⟩, h1, HB0.out.trans (HB.out.mono hlw)⟩

end Go.Proofs.Ytjlfdkeklilafab
