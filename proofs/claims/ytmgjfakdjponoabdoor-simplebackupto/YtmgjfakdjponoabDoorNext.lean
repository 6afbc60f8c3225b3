/-
  What the scanner's next does: it answers the next token and goes behind it, or gives up with the fault that the plain function tells.
-/
import Derived.Test.YtmgjfakdjponoabDoorNumber
namespace Go.Proofs.YtmgjfakdjponoabDoor
open Go.RowKit

def tokV (t : Nu.Tok) : Value := .agg #[.int .i64 t.kind, .int .i64 t.at', .int .i64 t.fin, .int .i64 t.num]
def faultV (x : Nat × Int) : Value := .iface 106 (.agg #[.int .i64 x.1, .int .i64 x.2])

def NextPost (b : Nat) (ao : Option Addr) (n cap p : Nat) (g : Nat → Int) (w : World) (e : Ending) (w' : World) : Prop :=
  w.grownBy w' (some b) ∧ ((∃ t p', Nu.next g n p = .ok (t, p') ∧ e = .returned (tokV t) ∧ Scn w' b ao n cap p') ∨ (∃ x, Nu.next g n p = .error x ∧ e = .panicked [{ v := faultV x, recovered := false }]))

theorem field_tok (x0 x1 x2 x3 : Value) (W : World) : (Instr.field 113 (.agg #[x0, x1, x2, x3]) 0).run Tryd.prog W = .ok x0 W := by kernel_rfl

theorem results_tok {fn : Func} {p : Tmp} (h : fn.results = #[.cell p 113]) (tmps : Array Value) (W : World) (B : Nat) (x0 x1 x2 x3 : Value)
    (hp : tmps.getD p undef = .pointer (some ⟨B, 0, none⟩)) (hg : W.heap[B]? = some (.cells #[x0, x1, x2, x3] 113 (0, 0))) :
    (results fn tmps).run Tryd.prog W = .ok (.agg #[x0, x1, x2, x3]) W :=
  results_cell_row (p := p) (ty := 113) h tmps W B 113 _ (0, 0) _ hp hg Tryd.underlying113 rfl (by kernel_rfl)

set_option maxHeartbeats 2000000 in
theorem next_any (b : Nat) (ao : Option Addr) (n cap p : Nat) (g : Nat → Int) (w : World) (hs : Scn w b ao n cap p) (ht : HasText w ao n g) (ha : Apart ao b) (hp : p ≤ n) (hn : n ≤ 33554432) (hcap : n ≤ cap) :
    Calls Tryd.prog 74 #[.pointer (some ⟨b, 0, none⟩)] w (NextPost b ao n cap p g w) := by
  have hbs := hs.lt
  go_enter Tryd.func74, Tryd.ntmps74
  go_wp2_with fail
  refine (pass_blank b ao n cap p g _ (hs.alloc _) (ht.alloc _) ha hp hn).mono ?_
  rintro e w1 ⟨rfl, q, hq, hs1, hg1⟩
  have ht1 := (ht.alloc _).grown hg1 ha
  have z0 : w1.heap[w.heap.size]? = some (.cells #[.int .i64 0, .int .i64 0, .int .i64 0, .int .i64 0] 113 (0, 0)) := by
    rw [hg1.block w.heap.size (by simp) (by simp; omega)]; exact heap_alloc_new w _
  have f0 : ∀ i, w1.frozen? ⟨w.heap.size, i, none⟩ = false := fun i => by simp [World.frozen?, z0]
  have g0 : w1.cell? ⟨w.heap.size, 0, none⟩ = some (.int .i64 0) := by simp [World.cell?, z0]
  have g1 : w1.cell? ⟨w.heap.size, 1, none⟩ = some (.int .i64 0) := by simp [World.cell?, z0]
  have g2 : w1.cell? ⟨w.heap.size, 2, none⟩ = some (.int .i64 0) := by simp [World.cell?, z0]
  have g3 : w1.cell? ⟨w.heap.size, 3, none⟩ = some (.int .i64 0) := by simp [World.cell?, z0]
  have d0 := hs1.text
  have d1 := hs1.place
  have fz := hs1.free 1
  have hqn := hq.hi
  have hg2 : w.grownBy w1 (some b) := grownBy_trans (World.grownBy_alloc w _ _) hg1
  have HG2 := Nu.hid hg2
  have HS1 := Nu.hid hs1
  have HT1 := Nu.hid ht1
  have HT := Nu.hid ht
  have HZ := Nu.hid z0
  have HQ := Nu.hid hq
  clear hg2 hg1 hs1 ht1 ht z0 hq hs
  by_cases hA : q = n
  · subst hA
    go_wp2_with fail
    refine bodyPost_ret (v := tokV ⟨3, q, q, 0⟩) (results_tok (p := 2) Tryd.results74 _ _ w.heap.size _ _ _ _ rfl (put4_heap (w := w1) HZ.out _ _ _ _)) rfl ?_
    exact ⟨grownBy_put4 HG2.out (Nat.le_refl _) _ _ _ _, .inl ⟨_, _, Nu.next_end HQ.out, rfl, HS1.out.put4 (by omega) _ _ _ _⟩⟩
  · have hlt : q < n := by omega
    have j0 : ((q : Int) == (n : Int)) = false := by simp; omega
    have j1 : (q : Int) < (n : Int) := by omega
    obtain ⟨⟨b0, b1⟩, tb, to, rfl, cq⟩ := HT1.out q hlt
    cases hd : Nu.isDigit (g q)
    · by_cases h10 : g q = 10
      · have j2 : (g q == 10) = true := by simp [h10]
        have H10 := Nu.hid h10
        clear h10
        go_wp2_with (go_at_call 85; refine (digit_any _ _).mono ?_; rintro e w' ⟨rfl, rfl⟩)
        have z3 := (heap_setCell_other w' ⟨b, 1, none⟩ w.heap.size (.int .i64 ((q : Int) + 1)) (by simp; omega)).trans HZ.out
        refine bodyPost_ret (v := tokV ⟨2, q, (q : Int) + 1, 0⟩) (results_tok (p := 2) Tryd.results74 _ _ w.heap.size _ _ _ _ rfl (put4_heap z3 _ _ _ _)) rfl ?_
        exact ⟨grownBy_put4 (grownBy_setCell HG2.out 1 _) (Nat.le_refl _) _ _ _ _, .inl ⟨_, _, Nu.next_line HQ.out hlt H10.out, rfl, (HS1.out.set (q + 1)).put4 (by omega) _ _ _ _⟩⟩
      · have j2 : (g q == 10) = false := by simp [h10]
        go_wp2_with (go_at_call 85; refine (digit_any _ _).mono ?_; rintro e w' ⟨rfl, rfl⟩)
        exact ⟨rfl, HG2.out, .inr ⟨(q, 11), Nu.next_byte HQ.out hlt hd h10, rfl⟩⟩
    · go_wp2_with (first | (go_at_call 85; refine (digit_any _ _).mono ?_; rintro e w' ⟨rfl, rfl⟩) | (go_at_call 86; refine (number_any b tb to n cap q g _ HS1.out HT1.out (fun h => ha _ rfl h) hlt hd hn hcap).mono ?_; refine Hid.out ?_))
      refine Nu.hid ?_
      rintro e w2 ⟨r, hr, hs2, hg3, hx⟩
      have z2 : w2.heap[w.heap.size]? = some (.cells #[.int .i64 0, .int .i64 0, .int .i64 0, .int .i64 0] 113 (0, 0)) := by
        rw [hg3.block w.heap.size (lt_of_block HZ.out) (by simp; omega)]; exact HZ.out
      rcases hx with ⟨hb, rfl⟩ | ⟨hb, rfl⟩
      · have HR := Nu.hid hr
        have HS2 := Nu.hid hs2
        have HG3 := Nu.hid (grownBy_trans HG2.out hg3)
        have HB := Nu.hid hb
        have HZ2 := Nu.hid z2
        clear g0 g1 g2 g3 f0 d0 d1 fz cq
        have f0 : ∀ i, w2.frozen? ⟨w.heap.size, i, none⟩ = false := fun i => by simp [World.frozen?, z2]
        have g0 : w2.cell? ⟨w.heap.size, 0, none⟩ = some (.int .i64 0) := by simp [World.cell?, z2]
        have g1 : w2.cell? ⟨w.heap.size, 1, none⟩ = some (.int .i64 0) := by simp [World.cell?, z2]
        have g2 : w2.cell? ⟨w.heap.size, 2, none⟩ = some (.int .i64 0) := by simp [World.cell?, z2]
        have g3 : w2.cell? ⟨w.heap.size, 3, none⟩ = some (.int .i64 0) := by simp [World.cell?, z2]
        clear hr hs2 hg3 hb z2
        go_wp2
        refine bodyPost_ret (v := tokV ⟨1, q, r, Nu.val g q (r - q)⟩) (results_tok (p := 2) Tryd.results74 _ _ w.heap.size _ _ _ _ rfl (put4_heap HZ2.out _ _ _ _)) rfl ?_
        exact ⟨grownBy_put4 HG3.out (Nat.le_refl _) _ _ _ _, .inl ⟨_, _, Nu.next_num HQ.out hlt hd HR.out HB.out, rfl, HS2.out.put4 (by omega) _ _ _ _⟩⟩
      · exact ⟨rfl, grownBy_trans HG2.out hg3, .inr ⟨(q, 12), Nu.next_bad HQ.out hlt hd hr hb, rfl⟩⟩

end Go.Proofs.YtmgjfakdjponoabDoor
