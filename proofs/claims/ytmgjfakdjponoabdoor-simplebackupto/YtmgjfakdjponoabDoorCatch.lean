/-
  What the function that Scan defers does: it takes a fault up and lays it into the results, or finds nothing.
-/
import Derived.Test.YtmgjfakdjponoabDoorGather
import Derived.Defers
import Derived.Recover
namespace Go.Proofs.YtmgjfakdjponoabDoor
open Go.RowKit

set_option maxHeartbeats 1000000 in
theorem catch_idle (p q r : Addr) (w : World) :
    CallsD Tryd.prog 59 #[.pointer (some p), .pointer (some q), .pointer (some r)] .returning w fun e u' w' => e = .returned (.tuple #[]) ∧ u' = .returning ∧ w' = w := by
  refine callsD_of_wpS Tryd.func59 rfl fun c₀ cs hu => ?_
  apply wpS_seq
  apply wpS_region
  simp [wpOpsS, go_sem, recoverD, hu, Tryd.ntmps59, Exit.thenS]
  refine wpS_of_wp ?_
  go_wp2
  cases c₀
  simp_all [bodyPostS, results, Tryd.results59]

/-- The three results of Scan lie in the blocks A, A + 1, A + 2. -/
structure Res (w : World) (A : Nat) (s : Value) (at' code : Int) : Prop where
  toks : w.heap[A]? = some (.cells #[s] 88 (0, 0))
  place : w.heap[A + 1]? = some (.cells #[.int .i64 at'] 3 (0, 0))
  code : w.heap[A + 2]? = some (.cells #[.int .i64 code] 29 (0, 0))

/-- The results laid anew. -/
def put3 (w : World) (A : Nat) (s : Value) (a c : Int) : World := ((w.setCell ⟨A, 0, none⟩ s).setCell ⟨A + 1, 0, none⟩ (.int .i64 a)).setCell ⟨A + 2, 0, none⟩ (.int .i64 c)

theorem Res.put3 {w : World} {A : Nat} {s s' : Value} {a c a' c' : Int} (h : Res w A s a c) : Res (put3 w A s' a' c') A s' a' c' := by
  refine ⟨?_, ?_, ?_⟩
  · unfold Go.Proofs.YtmgjfakdjponoabDoor.put3
    rw [heap_setCell_other _ ⟨A + 2, 0, none⟩ A _ (by simp), heap_setCell_other _ ⟨A + 1, 0, none⟩ A _ (by simp)]
    exact one_setCell h.toks
  · unfold Go.Proofs.YtmgjfakdjponoabDoor.put3
    rw [heap_setCell_other _ ⟨A + 2, 0, none⟩ (A + 1) _ (by simp)]
    refine one_setCell (v := .int .i64 a) ?_
    rw [heap_setCell_other _ ⟨A, 0, none⟩ (A + 1) _ (by simp)]
    exact h.place
  · unfold Go.Proofs.YtmgjfakdjponoabDoor.put3
    refine one_setCell (v := .int .i64 c) ?_
    rw [heap_setCell_other _ ⟨A + 1, 0, none⟩ (A + 2) _ (by simp), heap_setCell_other _ ⟨A, 0, none⟩ (A + 2) _ (by simp)]
    exact h.code

theorem put3_other (w : World) (A : Nat) (s : Value) (a c : Int) (k : Nat) (hk : k < A ∨ A + 2 < k) : (put3 w A s a c).heap[k]? = w.heap[k]? := by
  unfold put3
  rw [heap_setCell_other _ ⟨A + 2, 0, none⟩ k _ (by simp; omega), heap_setCell_other _ ⟨A + 1, 0, none⟩ k _ (by simp; omega), heap_setCell_other _ ⟨A, 0, none⟩ k _ (by simp; omega)]

theorem put3_size (w : World) (A : Nat) (s : Value) (a c : Int) : (put3 w A s a c).heap.size = w.heap.size := by simp [put3]

theorem put3_below (w : World) (A : Nat) (s : Value) (a c : Int) : Below A w (put3 w A s a c) :=
  ⟨rfl, rfl, rfl, by rw [put3_size]; exact Nat.le_refl _, fun k hk => put3_other w A s a c k (.inl hk)⟩

theorem Res.alloc {w : World} {A : Nat} {s : Value} {a c : Int} (h : Res w A s a c) (o : Obj) : Res (w.alloc o) A s a c :=
  ⟨(Below.heap_alloc w o A (lt_of_block h.toks)).trans h.toks, (Below.heap_alloc w o (A + 1) (lt_of_block h.place)).trans h.place, (Below.heap_alloc w o (A + 2) (lt_of_block h.code)).trans h.code⟩

theorem Res.drew {w : World} {A : Nat} {s : Value} {a c : Int} (h : Res w A s a c) : Res w.drew A s a c := ⟨h.toks, h.place, h.code⟩

theorem Res.grown {w w' : World} {A : Nat} {s : Value} {a c : Int} (h : Res w A s a c) (hg : w.grownBy w' none) : Res w' A s a c :=
  ⟨(hg.block A (lt_of_block h.toks) (by simp)).trans h.toks, (hg.block (A + 1) (lt_of_block h.place) (by simp)).trans h.place, (hg.block (A + 2) (lt_of_block h.code) (by simp)).trans h.code⟩

set_option maxHeartbeats 1000000 in
theorem catch_fault (A : Nat) (s : Value) (a c : Int) (x : Nat × Int) (w : World) (hr : Res w A s a c) :
    CallsD Tryd.prog 59 #[.pointer (some ⟨A, 0, none⟩), .pointer (some ⟨A + 1, 0, none⟩), .pointer (some ⟨A + 2, 0, none⟩)] (.panicking [{ v := faultV x, recovered := false }]) w fun e u' w' =>
      e = .returned (.tuple #[]) ∧ u' = .panicking [{ v := faultV x, recovered := true }] ∧ Res w' A (.slice none 0 0) x.1 x.2 ∧ Below A w w' := by
  have c0 := cell_of_one hr.toks
  have c1 := cell_of_one hr.place
  have c2 := cell_of_one hr.code
  have f0 := free_of_one hr.toks
  have f1 := free_of_one hr.place
  have f2 := free_of_one hr.code
  have l2 := lt_of_block hr.code
  have l1 := lt_of_block hr.place
  have l0 := lt_of_block hr.toks
  have hta : ∀ (v : Value) (w : World), (Instr.typeAssert (.iface 106 v) 20 106 true).run Tryd.prog w = .ok (.tuple #[v, .bool true]) w := fun _ _ => by kernel_rfl
  refine callsD_of_wpS Tryd.func59 rfl fun c₀ cs hu => ?_
  unfold faultV at hu ⊢
  apply wpS_seq
  apply wpS_region
  simp [wpOpsS, go_sem, recoverD, hu, Tryd.ntmps59, Exit.thenS, Array.replicate]
  refine wpS_of_wp ?_
  have HR := Nu.hid hr
  clear hr
  go_wp2
  go_region
  go_wp2
  exact ⟨rfl, _, rfl, .tuple #[], by simp [results, Tryd.results59], rfl, rfl, (HR.out.put3 (s' := .slice none 0 0) (a' := x.1) (c' := x.2)).alloc _ |>.drew, (put3_below w A (.slice none 0 0) x.1 x.2).trans (((Below.refl A _).alloc (by rw [put3_size]; omega) _).drew)⟩

end Go.Proofs.YtmgjfakdjponoabDoor
