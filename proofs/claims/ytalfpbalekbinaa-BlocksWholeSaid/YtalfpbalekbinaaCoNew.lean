/-
  New.
-/
import Derived.Test.YtalfpbalekbinaaCoJoin
import Derived.BigRegion
import Derived.Deep.RegionLaw
import Derived.Deep.CutBlock
import Derived.Deep.CutRange
namespace Go.Proofs.Ytalfpbalekbinaa
open Go.RowKit

theorem Try.infoTree : (Try.prog.info? 99).map (fun i => (i.zero, i.size, i.bytes)) = some (some (.agg #[.int .i64 0, .int .i64 0]), 2, 16) := by kernel_rfl

theorem made_ints {W : World} {k n : Nat} (h : W.heap.size = k) : IntsIn (W.alloc (.cells (madeCells #[.int .i64 0] n) 3)) k (Co.ints n (fun _ => 0)) := by
  subst h
  refine ⟨[], ?_⟩
  rw [heap_alloc_new, List.append_nil, Co.ints_zero, ← made_zeros]

theorem made_trees {W : World} {k n : Nat} (h : W.heap.size = k) : TreesIn (W.alloc (.cells (madeCells #[.int .i64 0, .int .i64 0] (n * 2)) 99)) k n (fun _ => 0) (fun _ => 0) := by
  subst h
  have hc : ∀ j, j < n * 2 → (madeCells #[Value.int .i64 0, Value.int .i64 0] (n * 2)).toList[j]? = some (.int .i64 0) := fun j hj => by
    have e : (madeCells #[Value.int .i64 0, Value.int .i64 0] (n * 2)).toList = (List.range (n * 2)).map (fun x => [Value.int .i64 0, Value.int .i64 0][x % 2]?.getD default) := by simp [madeCells]
    rw [e, List.getElem?_map, List.getElem?_range hj]
    rcases Nat.mod_two_eq_zero_or_one j with h | h <;> simp [h]
  refine ⟨(madeCells #[Value.int .i64 0, Value.int .i64 0] (n * 2)).toList, by rw [heap_alloc_new], by rw [Array.length_toList, size_madeCells], fun i hi => ⟨hc _ (by omega), hc _ (by omega)⟩⟩

theorem TreesIn.alloc {w : World} {g n : Nat} {S L : Nat → Nat} (h : TreesIn w g n S L) (o : Obj) : TreesIn (w.alloc o) g n S L := h.same (Below.heap_alloc w o g h.lt)

theorem sets_new {W : World} {p gp gt n : Nat} (h : W.heap.size = p) : (W.alloc (.cells #[.slice (some ⟨gp, 0, none⟩) n n, .slice (some ⟨gt, 0, none⟩) n n, .int .i64 (n : Int)] 97)).heap[p]? = some (.cells #[.slice (some ⟨gp, 0, none⟩) n n, .slice (some ⟨gt, 0, none⟩) n n, .int .i64 (n : Int)] 97 (0, 0)) := by
  subst h
  exact heap_alloc_new W _

/-- What New has made, k numbers of which are laid. -/
def NewMidC (n k p : Nat) (w wr : World) : Prop :=
  ∃ gp gt P S L, SetsHolds wr p gp gt n n P S L ∧ (∀ i, i < k → P i = i ∧ S i = 1 ∧ L i = i) ∧ w.heap.size ≤ p ∧ w.heap.size ≤ gp ∧ w.heap.size ≤ gt ∧ Below w.heap.size w wr

/-- Nothing, or a new Sets of single numbers. -/
def NewPostC (n : Int) (w : World) (e : Ending) (w' : World) : Prop :=
  ((∃ k p gp gt : Nat, n = (k : Int) ∧ k ≤ 1048576 ∧ e = .returned (.tuple #[.pointer (some ⟨p, 0, none⟩), .int .i64 0]) ∧ SetsOf w' p gp gt k (fun x => x) ∧ w.heap.size ≤ p ∧ w.heap.size ≤ gp ∧ w.heap.size ≤ gt) ∨ ((n < 0 ∨ 1048576 < n) ∧ e = .returned (.tuple #[.pointer none, .int .i64 2]))) ∧ Below w.heap.size w w'

set_option maxRecDepth 100000 in
set_option maxHeartbeats 8000000 in
theorem new_any (n : Int) (w : World) : Calls Try.prog 38 #[.int .i64 n] w (NewPostC n w) := by
  obtain ⟨i0, hi, hz0, hz1, hz2⟩ := info_parts Try.infoNum
  obtain ⟨i1, hi1, hy0, hy1, hy2⟩ := info_parts Try.infoTree
  by_cases h1 : n < 0
  · go_enter Try.func38, Try.ntmps38
    go_wp2
    go_ret2
    exact ⟨.inr ⟨.inl h1, rfl⟩, Below.refl _ _⟩
  by_cases h2 : 1048576 < n
  · go_enter Try.func38, Try.ntmps38
    go_wp2
    go_ret2
    exact ⟨.inr ⟨.inr h2, rfl⟩, Below.refl _ _⟩
  obtain ⟨k, rfl⟩ : ∃ k : Nat, n = (k : Int) := ⟨n.toNat, by omega⟩
  have hkn : k ≤ 1048576 := by omega
  have hm1 : ∀ W, (Instr.makeSlice 94 (.int .i64 (k : Int)) (.int .i64 (k : Int))).run Try.prog W = .ok (.slice (some ⟨W.heap.size, 0, none⟩) k k) (W.alloc (.cells (madeCells #[.int .i64 0] k) 3)) := fun W => by
    have := run_make (P := Try.prog) W 94 3 i0 (.int .i64 0) Try.underlying94 hi hz0 .i64 .i64 (k : Int) (k : Int) (by omega) (Int.le_refl _) (by rw [hz2]; omega) (by omega)
    rw [this, hz1]
    simp [Value.cells]
  have hm2 : ∀ W, (Instr.makeSlice 95 (.int .i64 (k : Int)) (.int .i64 (k : Int))).run Try.prog W = .ok (.slice (some ⟨W.heap.size, 0, none⟩) k k) (W.alloc (.cells (madeCells #[.int .i64 0, .int .i64 0] (k * 2)) 99)) := fun W => by
    have := run_make (P := Try.prog) W 95 99 i1 (.agg #[.int .i64 0, .int .i64 0]) Try.underlying95 hi1 hy0 .i64 .i64 (k : Int) (k : Int) (by omega) (Int.le_refl _) (by rw [hy2]; omega) (by omega)
    rw [this, hy1]
    simp [Value.cells]
  go_enter Try.func38, Try.ntmps38
  go_upto_region 3 with fail
  go_cut [4] from 12 to 18 (fun x wr => ∃ p : Nat, x = .pointer (some ⟨p, 0, none⟩) ∧ NewMidC k 0 p w wr)
  case first =>
    go_wp2_with fail
    go_region
    all_goals go_wp2_with fail
    all_goals go_meet
    all_goals
      refine ⟨_, rfl, _, _, fun _ => 0, fun _ => 0, fun _ => 0, ⟨sets_new (by simp), ?_, ?_, ?_, ?_, ?_⟩, fun i hi => by omega, ?_, ?_, ?_, ?_⟩
      · repeat (first | (refine made_ints ?_; simp; done) | refine IntsIn.alloc ?_ _)
      · repeat (first | (refine made_trees ?_; simp; done) | refine TreesIn.alloc ?_ _)
      · omega
      · omega
      · omega
      · omega
      · omega
      · omega
      · repeat (first | exact Below.refl _ _ | refine Below.drew ?_ | refine Below.alloc ?_ (by first | omega | (simp; done) | (simp; omega)) _)
  case rest =>
    obtain ⟨p, rfl, hmid⟩ := hcut
    have HMID := Nu.hid hmid
    clear hmid hm1 hm2
    go_wp2
    go_loopw [20] (fun c wr => ∃ j : Nat, j ≤ k ∧ c = .int .i64 (j : Int) ∧ NewMidC k j p w wr) (fun c _ => k - (intOf c).toNat)
    case atStart => exact ⟨0, Nat.zero_le _, rfl, HMID.out⟩
    case round =>
      obtain ⟨j, hj, rfl, gp, gt, P, S, L, hH, hall, b1, b2, b3, hb⟩ := hrel
      by_cases hlt : j < k
      · have hlti : (j : Int) < (k : Int) := by omega
        have hj0 : (0 : Int) ≤ (j : Int) := by omega
        obtain ⟨W, hW⟩ : ∃ W, W = wr.setCell ⟨gp, j, none⟩ (.int .i64 (j : Int)) := ⟨_, rfl⟩
        have q1 := hH.par.set (i := j) (by rw [Co.ints_length]; exact hlt) (j : Int)
        rw [Co.ints_set j hlt, ← hW] at q1
        have q2 : W.heap[p]? = wr.heap[p]? := by rw [hW]; exact heap_setCell_other wr ⟨gp, j, none⟩ p _ hH.d1
        have q3 : W.heap[gt]? = wr.heap[gt]? := by rw [hW]; exact heap_setCell_other wr ⟨gp, j, none⟩ gt _ (Ne.symm hH.d3)
        have T1 := hH.tre.same q3
        obtain ⟨T2, t1, t2⟩ := T1.put hlt 1 j
        have c0 := hH.c0
        have c1 : W.cell? ⟨p, 1, none⟩ = some (.slice (some ⟨gt, 0, none⟩) k k) := by simp [World.cell?, q2, hH.blk]
        have p0 := hH.par.cell (Co.ints_at (f := P) hlt)
        have pf := hH.par.free
        have tc := (T1.cell hlt).1
        have tf := T1.free
        obtain ⟨v1, v2⟩ := hH.tre.cell hlt
        have vf := hH.tre.free
        rw [show ((1 : Nat) : Int) = 1 from rfl] at t1 t2
        have HEND : Hid (NewMidC k (j + 1) p w ((W.setCell ⟨gt, j * 2, none⟩ (.int .i64 1)).setCell ⟨gt, j * 2 + 1, none⟩ (.int .i64 (j : Int)))) := by
          refine ⟨gp, gt, _, _, _, ⟨?_, (q1.other (i := j * 2) hH.d3 _).other (i := j * 2 + 1) hH.d3 _, T2, hH.d1, hH.d2, hH.d3⟩, fun i hi => ?_, b1, b2, b3, ?_⟩
          · rw [heap_setCell_other _ ⟨gt, j * 2 + 1, none⟩ p _ hH.d2, heap_setCell_other _ ⟨gt, j * 2, none⟩ p _ hH.d2, q2]
            exact hH.blk
          · by_cases e : i = j
            · subst e
              rw [Co.upd_same, Co.upd_same, Co.upd_same]
              exact ⟨rfl, rfl, rfl⟩
            · rw [Co.upd_other _ e, Co.upd_other _ e, Co.upd_other _ e]
              exact hall i (by omega)
          · rw [hW]
            exact ((hb.setCell (p := ⟨gp, j, none⟩) b2 _).setCell (p := ⟨gt, j * 2, none⟩) b3 _).setCell (p := ⟨gt, j * 2 + 1, none⟩) b3 _
        clear hH hall hb q1 q2 q3 T1 T2
        subst hW
        go_wp2
        go_roundw
        case rel => exact ⟨j + 1, by omega, by go_num, HEND.out⟩
        case measure => simp [intOf]; omega
      · have hd : ¬ ((j : Int) < (k : Int)) := by omega
        obtain rfl : j = k := by omega
        have HEND : Hid (SetsOf wr p gp gt j (fun x => x)) := by
          refine ⟨hkn, _, _, _, _, _, ?_, Co.forest_id j⟩
          rw [Co.cnt_id]
          refine ⟨hH.blk, ?_, hH.tre.congr (fun i hi => (hall i hi).2.1) (fun i hi => (hall i hi).2.2), hH.d1, hH.d2, hH.d3⟩
          rw [← Co.ints_congr (fun i hi => (hall i hi).1)]
          exact hH.par
        have HB := Nu.hid hb
        clear hH hall hb
        go_wp2
        go_ret2
        exact ⟨.inl ⟨j, p, gp, gt, rfl, hkn, rfl, HEND.out, b1, b2, b3⟩, HB.out⟩

end Go.Proofs.Ytalfpbalekbinaa
