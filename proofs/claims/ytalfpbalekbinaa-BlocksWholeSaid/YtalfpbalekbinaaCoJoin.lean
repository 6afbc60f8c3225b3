/-
  The calls of a Sets that write: hang, with, Join; New.
-/
import Derived.Test.YtalfpbalekbinaaCoSets
namespace Go.Proofs.Ytalfpbalekbinaa
open Go.RowKit

set_option maxRecDepth 100000 in
set_option maxHeartbeats 1000000 in
theorem hang_any (gp n : Nat) (P : Nat → Nat) (b a : Nat) (w : World) (hp : IntsIn w gp (Co.ints n P)) (hb : b < n) :
    Calls Try.prog 62 #[.slice (some ⟨gp, 0, none⟩) n n, .int .i64 (b : Int), .int .i64 (a : Int)] w fun e w' => e = .returned (.tuple #[]) ∧ IntsIn w' gp (Co.ints n (Co.upd P b a)) ∧ w' = w.setCell ⟨gp, b, none⟩ (.int .i64 (a : Int)) := by
  have c0 := hp.cell (Co.ints_at (f := P) hb)
  have cf := hp.free
  have n1 := hp.set (i := b) (by rw [Co.ints_length]; exact hb) (a : Int)
  rw [Co.ints_set a hb] at n1
  have N1 := Nu.hid n1
  have b0 : (0 : Int) ≤ (b : Int) := by omega
  have b1 : (b : Int) < (n : Int) := by omega
  clear hp n1
  go_enter Try.func62, Try.ntmps62
  go_wp2
  go_end0
  exact ⟨rfl, N1.out, rfl⟩

set_option maxRecDepth 100000 in
set_option maxHeartbeats 1000000 in
theorem with_any (s l s' l' : Nat) (w : World) (h1 : s ≤ 1048576) (h2 : s' ≤ 1048576) :
    Calls Try.prog 63 #[.agg #[.int .i64 (s : Int), .int .i64 (l : Int)], .agg #[.int .i64 (s' : Int), .int .i64 (l' : Int)]] w fun e w' => e = .returned (.agg #[.int .i64 ((s + s' : Nat) : Int), .int .i64 ((min l l' : Nat) : Int)]) ∧ Below w.heap.size w w' := by
  have hb0 : ∀ o1 o2 o3, Below w.heap.size w (((w.alloc o1).alloc o2).alloc o3) := fun o1 o2 o3 => (((Below.refl _ _).alloc (Nat.le_refl _) _).alloc (by simp) _).alloc (by simp; omega) _
  have HB := Nu.hid hb0
  clear hb0
  rcases Nat.le_total l l' with hl | hl
  · rw [Nat.min_eq_left hl]
    have e1 : min (l : Int) (l' : Int) = (l : Int) := by omega
    have e2 : ((s + s' : Nat) : Int) = (s : Int) + (s' : Int) := by omega
    have e3 : (l : Int) ≤ (l' : Int) := by omega
    rw [e2]
    clear e2 hl
    go_enter Try.func63, Try.ntmps63
    go_wp2
    refine bodyPost_ret (v := .agg #[.int .i64 ((s : Int) + (s' : Int)), .int .i64 (l : Int)]) (by simp [results, Try.results63, go_sem]) rfl ?_
    exact ⟨rfl, HB.out _ _ _⟩
  · rw [Nat.min_eq_right hl]
    have e2 : ((s + s' : Nat) : Int) = (s : Int) + (s' : Int) := by omega
    rw [e2]
    clear e2
    by_cases he : l' = l
    · subst he
      have e1 : min (l' : Int) (l' : Int) = (l' : Int) := by omega
      clear hl
      go_enter Try.func63, Try.ntmps63
      go_wp2
      refine bodyPost_ret (v := .agg #[.int .i64 ((s : Int) + (s' : Int)), .int .i64 (l' : Int)]) (by simp [results, Try.results63, go_sem]) rfl ?_
      exact ⟨rfl, HB.out _ _ _⟩
    · have e1 : min (l : Int) (l' : Int) = (l' : Int) := by omega
      have e3 : ¬ ((l : Int) ≤ (l' : Int)) := by omega
      have e4 : (l' : Int) < (l : Int) := by omega
      clear hl he
      go_enter Try.func63, Try.ntmps63
      go_wp2
      refine bodyPost_ret (v := .agg #[.int .i64 ((s : Int) + (s' : Int)), .int .i64 (l' : Int)]) (by simp [results, Try.results63, go_sem]) rfl ?_
      exact ⟨rfl, HB.out _ _ _⟩

/-- A Sets by its blocks; nil for none. -/
def SetsQ (w : World) (q : Option (Nat × Nat × Nat)) (n : Nat) (m : Nat → Nat) : Prop :=
  match q with
  | none => n = 0
  | some (p, gp, gt) => SetsOf w p gp gt n m

def ptrQ : Option (Nat × Nat × Nat) → Option Addr
  | none => none
  | some (p, _, _) => some ⟨p, 0, none⟩

def inQ : Option (Nat × Nat × Nat) → Nat → Prop
  | none, _ => False
  | some (p, gp, gt), b => b = p ∨ b = gp ∨ b = gt

section
variable {w w' : World} {q : Option (Nat × Nat × Nat)} {n : Nat} {m : Nat → Nat}
theorem SetsQ.is (h : SetsQ w q n m) : IsSets w (ptrQ q) n m := by
  rcases q with _ | ⟨p, gp, gt⟩
  · exact .inl ⟨rfl, h⟩
  · exact .inr ⟨p, gp, gt, rfl, h⟩
theorem SetsQ.later (h : SetsQ w q n m) (hb : Below w.heap.size w w') : SetsQ w' q n m := by
  rcases q with _ | ⟨p, gp, gt⟩
  · exact h
  · exact SetsOf.later h hb
theorem SetsQ.wrote {R : Nat → Prop} (h : SetsQ w q n m) (hb : Wrote R w w') (h1 : ∀ b, inQ q b → ¬ R b) : SetsQ w' q n m := by
  rcases q with _ | ⟨p, gp, gt⟩
  · exact h
  · exact SetsOf.wrote h hb (h1 p (.inl rfl)) (h1 gp (.inr (.inl rfl))) (h1 gt (.inr (.inr rfl)))
theorem SetsQ.lt (h : SetsQ w q n m) {b : Nat} (hb : inQ q b) : b < w.heap.size := by
  rcases q with _ | ⟨p, gp, gt⟩
  · cases hb
  · obtain ⟨h1, h2, h3⟩ := SetsOf.lts h
    rcases hb with rfl | rfl | rfl <;> assumption
theorem SetsQ.congr {m' : Nat → Nat} (h : SetsQ w q n m) (e : ∀ x, x < n → m x = m' x) : SetsQ w q n m' := by
  rcases q with _ | ⟨p, gp, gt⟩
  · exact h
  · exact SetsOf.congr h e
end

def JoinPost (q : Option (Nat × Nat × Nat)) (n : Nat) (m : Nat → Nat) (x y : Int) (w : World) (e : Ending) (w' : World) : Prop :=
  e = .returned (.bool (Co.apart n m x y)) ∧ SetsQ w' q n (Co.joinI n m x y) ∧ Wrote (inQ q) w w'

/-- The blocks behind the stores of a Join. -/
theorem joined_blocks {w W V1 : World} {p gp gt n c : Nat} {P S L : Nat → Nat} (h : SetsHolds w p gp gt n (c + 1) P S L) {A C : Nat} (hC : C < n) (hA : A < n) (s l : Nat) (hW : W = w.setCell ⟨gp, C, none⟩ (.int .i64 (A : Int))) (hV : Below W.heap.size W V1) :
    SetsHolds (((V1.setCell ⟨gt, A * 2, none⟩ (.int .i64 (s : Int))).setCell ⟨gt, A * 2 + 1, none⟩ (.int .i64 (l : Int))).setCell ⟨p, 2, none⟩ (.int .i64 (c : Int))) p gp gt n c (Co.upd P C A) (Co.upd S A s) (Co.upd L A l) ∧
    Wrote (fun b => b = p ∨ b = gp ∨ b = gt) w (((V1.setCell ⟨gt, A * 2, none⟩ (.int .i64 (s : Int))).setCell ⟨gt, A * 2 + 1, none⟩ (.int .i64 (l : Int))).setCell ⟨p, 2, none⟩ (.int .i64 (c : Int))) ∧
    SetsHolds V1 p gp gt n (c + 1) (Co.upd P C A) S L := by
  have hp := (h.par.set (i := C) (by rw [Co.ints_length]; exact hC) (A : Int))
  rw [Co.ints_set A hC, ← hW] at hp
  have hb : W.heap[p]? = w.heap[p]? := by rw [hW]; exact heap_setCell_other w ⟨gp, C, none⟩ p _ h.d1
  have ht : W.heap[gt]? = w.heap[gt]? := by rw [hW]; exact heap_setCell_other w ⟨gp, C, none⟩ gt _ (Ne.symm h.d3)
  have hsz : W.heap.size = w.heap.size := by rw [hW]; simp
  have p1 := hp.later hV
  have b1 : V1.heap[p]? = w.heap[p]? := (hV.block p (by rw [hsz]; exact h.lt)).trans hb
  have t1 : V1.heap[gt]? = w.heap[gt]? := (hV.block gt (by rw [hsz]; exact h.tre.lt)).trans ht
  have T1 := h.tre.same t1
  have T2 := (T1.put hA s l).1
  have p2 := ((p1.other (i := A * 2) h.d3 (.int .i64 (s : Int))).other (i := A * 2 + 1) h.d3 (.int .i64 (l : Int))).other (i := 2) (Ne.symm h.d1) (.int .i64 (c : Int))
  have W1 : Wrote (fun b => b = p ∨ b = gp ∨ b = gt) w V1 := by
    have : Wrote (fun b => b = p ∨ b = gp ∨ b = gt) w W := by rw [hW]; exact (Wrote.refl _ w).setCell (.inr (.inl rfl)) _
    exact this.later hV
  refine ⟨⟨?_, p2, T2.same (heap_setCell_other _ ⟨p, 2, none⟩ gt _ (Ne.symm h.d2)), h.d1, h.d2, h.d3⟩, ((W1.setCell (.inr (.inr rfl)) _).setCell (.inr (.inr rfl)) _).setCell (.inl rfl) _, ⟨b1.trans h.blk, p1, T1, h.d1, h.d2, h.d3⟩⟩
  have b3 : (((V1.setCell ⟨gt, A * 2, none⟩ (.int .i64 (s : Int))).setCell ⟨gt, A * 2 + 1, none⟩ (.int .i64 (l : Int)))).heap[p]? = some (.cells #[.slice (some ⟨gp, 0, none⟩) n n, .slice (some ⟨gt, 0, none⟩) n n, .int .i64 ((c + 1 : Nat) : Int)] 97 (0, 0)) := by
    rw [heap_setCell_other _ ⟨gt, A * 2 + 1, none⟩ p _ h.d2, heap_setCell_other _ ⟨gt, A * 2, none⟩ p _ h.d2, b1]
    exact h.blk
  rw [heap_setCell_same _ p 2 _ _ _ b3]
  simp

/-- What a Join's last regions find, and what they leave. -/
theorem join_mid {w W V1 : World} {p gp gt n c : Nat} {P S L : Nat → Nat} (h : SetsHolds w p gp gt n (c + 1) P S L) {A C : Nat} (hC : C < n) (hA : A < n) (s l : Nat) (hW : W = w.setCell ⟨gp, C, none⟩ (.int .i64 (A : Int))) (hV : Below W.heap.size W V1) :
    (V1.cell? ⟨p, 1, none⟩ = some (.slice (some ⟨gt, 0, none⟩) n n) ∧ V1.cell? ⟨gt, A * 2, none⟩ = some (.int .i64 (S A : Int)) ∧ V1.cell? ⟨gt, A * 2 + 1, none⟩ = some (.int .i64 (L A : Int)) ∧ V1.cell? ⟨gt, C * 2, none⟩ = some (.int .i64 (S C : Int)) ∧ V1.cell? ⟨gt, C * 2 + 1, none⟩ = some (.int .i64 (L C : Int)) ∧ (∀ i, V1.frozen? ⟨gt, i, none⟩ = false)) ∧
    ((V1.setCell ⟨gt, A * 2, none⟩ (.int .i64 (s : Int))).cell? ⟨gt, A * 2 + 1, none⟩ = some (.int .i64 (L A : Int)) ∧ (V1.setCell ⟨gt, A * 2, none⟩ (.int .i64 (s : Int))).frozen? ⟨gt, A * 2 + 1, none⟩ = false) ∧
    (((V1.setCell ⟨gt, A * 2, none⟩ (.int .i64 (s : Int))).setCell ⟨gt, A * 2 + 1, none⟩ (.int .i64 (l : Int))).cell? ⟨p, 1, none⟩ = some (.slice (some ⟨gt, 0, none⟩) n n) ∧ ((V1.setCell ⟨gt, A * 2, none⟩ (.int .i64 (s : Int))).setCell ⟨gt, A * 2 + 1, none⟩ (.int .i64 (l : Int))).cell? ⟨p, 2, none⟩ = some (.int .i64 ((c : Int) + 1)) ∧ ((V1.setCell ⟨gt, A * 2, none⟩ (.int .i64 (s : Int))).setCell ⟨gt, A * 2 + 1, none⟩ (.int .i64 (l : Int))).frozen? ⟨p, 2, none⟩ = false) := by
  obtain ⟨-, -, hv⟩ := joined_blocks h hC hA s l hW hV
  obtain ⟨a1, a2⟩ := hv.tre.cell hA
  obtain ⟨b1, b2⟩ := hv.tre.cell hC
  obtain ⟨-, q1, q2⟩ := hv.tre.put hA s l
  have hb : ((V1.setCell ⟨gt, A * 2, none⟩ (.int .i64 (s : Int))).setCell ⟨gt, A * 2 + 1, none⟩ (.int .i64 (l : Int))).heap[p]? = some (.cells #[.slice (some ⟨gp, 0, none⟩) n n, .slice (some ⟨gt, 0, none⟩) n n, .int .i64 ((c + 1 : Nat) : Int)] 97 (0, 0)) := by
    rw [heap_setCell_other _ ⟨gt, A * 2 + 1, none⟩ p _ h.d2, heap_setCell_other _ ⟨gt, A * 2, none⟩ p _ h.d2]
    exact hv.blk
  exact ⟨⟨hv.c1, a1, a2, b1, b2, hv.tre.free⟩, ⟨q1, q2⟩, by simp [World.cell?, hb], by simp [World.cell?, hb], by simp [World.frozen?, hb]⟩

end Go.Proofs.Ytalfpbalekbinaa
