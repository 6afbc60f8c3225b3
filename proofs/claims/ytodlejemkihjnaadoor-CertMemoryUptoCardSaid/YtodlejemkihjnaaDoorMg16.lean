import Derived.Test.YtodlejemkihjnaaDoorMg15
import Derived.Deep.RegionWith
import Derived.Test.YtodlejemkihjnaaDoorMg04
/-
  What the scanner's number does at a digit: it answers the run's token, or gives up with the fault 12 at the run's place.
-/
namespace Go.Proofs.YtodlejemkihjnaaDoor
open Go.RowKit

theorem Nu.val_shift (g : Nat → Int) (q : Nat) : ∀ k, Nu.val (fun i => g (q + i)) 0 k = Nu.val g q k
  | 0 => rfl
  | k + 1 => by simp [Nu.val, Nu.val_shift g q k]

theorem HasText.cut {w : World} {tb to n : Nat} {g : Nat → Int} (h : HasText w (some ⟨tb, to, none⟩) n g) {q r : Nat} (hr : r ≤ n) (_hq : q ≤ r) : HasText w (some ⟨tb, to + q, none⟩) (r - q) (fun i => g (q + i)) := by
  intro i hi
  obtain ⟨hb, tb', to', e, hc⟩ := h (q + i) (by omega)
  simp only [Option.some.injEq, Addr.mk.injEq] at e
  obtain ⟨rfl, rfl, _⟩ := e
  exact ⟨hb, tb, to + q, rfl, by rw [← Nat.add_assoc] at hc; exact hc⟩

set_option maxHeartbeats 1000000 in
theorem number_any (b : Nat) (tb to n cap q : Nat) (g : Nat → Int) (w : World) (hs : Scn w b (some ⟨tb, to, none⟩) n cap q) (ht : HasText w (some ⟨tb, to, none⟩) n g) (ha : tb ≠ b) (hq : q < n) (hd : Nu.isDigit (g q) = true) (hn : n ≤ 33554432) (hcap : n ≤ cap) :
    Calls Tryd.prog 62 #[.pointer (some ⟨b, 0, none⟩)] w fun e w' =>
      ∃ r, Nu.IsSkip Nu.isDigit g n q r ∧ Scn w' b (some ⟨tb, to, none⟩) n cap r ∧ w.grownBy w' (some b) ∧
        ((¬ (9 < r - q ∨ (1 < r - q ∧ g q = 48)) ∧ e = .returned (.agg #[.int .i64 1, .int .i64 q, .int .i64 r, .int .i64 (Nu.val g q (r - q))])) ∨
         ((9 < r - q ∨ (1 < r - q ∧ g q = 48)) ∧ e = .panicked [{ v := .iface 110 (.agg #[.int .i64 q, .int .i64 12]), recovered := false }])) := by
  have c0 := hs.text
  have c1 := hs.place
  have hbs := hs.lt
  go_enter Tryd.func62, Tryd.ntmps62
  go_wp2_with fail
  refine (pass_digit b _ n cap q g _ (hs.alloc _) (ht.alloc _) (fun x hx => by cases hx; exact ha) (by omega) hn).mono ?_
  rintro e w1 ⟨rfl, r, hr, hs1, hg1⟩
  have ht1 := (ht.alloc _).grown hg1 (fun x hx => by cases hx; exact ha)
  have hqr : q < r := by
    rcases Nat.lt_or_ge q r with h | h
    · exact h
    · have e : q = r := Nat.le_antisymm hr.lo h
      subst e
      rw [hr.stop hq] at hd
      cases hd
  have hrn := hr.hi
  have cell0 := (ht1 q hq).2
  obtain ⟨_, _, e, cq⟩ := cell0
  cases e
  have d0 := hs1.text
  have d1 := hs1.place
  have z0 : w1.heap[w.heap.size]? = some (.cells #[.int .i64 0, .int .i64 0, .int .i64 0, .int .i64 0] 102 (0, 0)) := by
    rw [hg1.block w.heap.size (by simp) (by simp; omega)]; exact heap_alloc_new w _
  have HZ := Nu.hid z0
  have HD := Nu.hid hd
  have HT := Nu.hid ht
  have HT1 := Nu.hid ht1
  clear z0 hd ht ht1 c0 c1
  have i1 : (q : Int) ≤ (r : Int) := by omega
  have i2 : (r : Int) ≤ (cap : Int) := by omega
  have hg2 : w.grownBy w1 (some b) := grownBy_trans (World.grownBy_alloc w _ _) hg1
  have HG2 := Nu.hid hg2
  have HG1 := Nu.hid hg1
  have HR := Nu.hid hr
  have HS1 := Nu.hid hs1
  clear hg2 hg1 hr hs1
  by_cases hA : 9 < r - q
  · have j1 : (9 : Int) < ((r - q : Nat) : Int) := by omega
    go_wp2_with fail
    go_quiet (fail)
    go_wp2
    exact ⟨rfl, r, HR.out, HS1.out.drewN _, grownBy_drewN HG2.out _, .inr ⟨.inl hA, rfl⟩⟩
  · have j1 : ((r - q : Nat) : Int) ≤ 9 := by omega
    have j1' : decide ((9 : Int) < ((r - q : Nat) : Int)) = false := by simp; omega
    by_cases hB : 1 < r - q
    · have j2 : (1 : Int) < ((r - q : Nat) : Int) := by omega
      by_cases hC : g q = 48
      · have j3 : (g q == 48) = true := by simp [hC]
        have HC := Nu.hid hC
        clear hC
        go_wp2_with fail
        go_quiet (fail)
        go_wp2
        exact ⟨rfl, r, HR.out, HS1.out.drewN _, grownBy_drewN HG2.out _, .inr ⟨.inr ⟨hB, HC.out⟩, rfl⟩⟩
      · have j3 : (g q == 48) = false := by simp [hC]
        have HN := Nu.hid (show ¬ (9 < r - q ∨ (1 < r - q ∧ g q = 48)) from fun h => h.elim hA fun h => hC h.2)
        clear hC
        go_wp2_with fail
        go_quiet (fail)
        go_wp2_with fail
        have vd : ∀ i, i < r - q → 48 ≤ g (q + i) ∧ g (q + i) ≤ 57 := fun i hi => by
          have := HR.out.all (q + i) (by omega) (by omega)
          simpa [Nu.isDigit] using this
        have V := fun (k : Nat) => value_any (some ⟨tb, to + q, none⟩) (r - q) (cap - q) (fun i => g (q + i)) (w1.drewN k) ((HT1.out.drewN k).cut (by omega) (by omega)) (by omega) vd
        rw [Nu.val_shift] at V
        have VH := Nu.hid V
        clear V vd
        have f0 : ∀ i, w1.frozen? ⟨w.heap.size, i, none⟩ = false := fun i => by simp [World.frozen?, HZ.out]
        have f1 : ∀ i, i < 4 → w1.cell? ⟨w.heap.size, i, none⟩ = some (.int .i64 0) := fun i hi => by
          rcases (show i = 0 ∨ i = 1 ∨ i = 2 ∨ i = 3 by omega) with rfl | rfl | rfl | rfl <;> simp [World.cell?, HZ.out]
        have g0 := f1 0 (by omega)
        have g1 := f1 1 (by omega)
        have g2 := f1 2 (by omega)
        have g3 := f1 3 (by omega)
        go_region_with (go_at_call 63; refine (VH.out _).mono ?_; rintro e w' ⟨rfl, rfl⟩)
        all_goals go_wp2
        all_goals
          refine bodyPost_ret (v := .agg #[.int .i64 1, .int .i64 q, .int .i64 r, .int .i64 (Nu.val g q (r - q))]) (results_cell_row (p := 2) (ty := 102) Tryd.results62 _ _ w.heap.size 102 _ (0, 0) _ rfl (put4_heap (w := w1.drewN (nq + 1)) HZ.out _ _ _ _) Tryd.underlying102 rfl (by kernel_rfl)) rfl ?_
          exact ⟨r, HR.out, (HS1.out.drewN _).put4 (by omega) _ _ _ _, grownBy_put4 (grownBy_drewN HG2.out _) (Nat.le_refl _) _ _ _ _, .inl ⟨HN.out, rfl⟩⟩
    · have j2 : decide ((1 : Int) < ((r - q : Nat) : Int)) = false := by simp; omega
      have HN := Nu.hid (show ¬ (9 < r - q ∨ (1 < r - q ∧ g q = 48)) from fun h => h.elim hA fun h => hB h.1)
      go_wp2_with fail
      go_quiet (fail)
      go_wp2_with fail
      have vd : ∀ i, i < r - q → 48 ≤ g (q + i) ∧ g (q + i) ≤ 57 := fun i hi => by
        have := HR.out.all (q + i) (by omega) (by omega)
        simpa [Nu.isDigit] using this
      have V := fun (k : Nat) => value_any (some ⟨tb, to + q, none⟩) (r - q) (cap - q) (fun i => g (q + i)) (w1.drewN k) ((HT1.out.drewN k).cut (by omega) (by omega)) (by omega) vd
      rw [Nu.val_shift] at V
      have VH := Nu.hid V
      clear V vd
      have f0 : ∀ i, w1.frozen? ⟨w.heap.size, i, none⟩ = false := fun i => by simp [World.frozen?, HZ.out]
      have f1 : ∀ i, i < 4 → w1.cell? ⟨w.heap.size, i, none⟩ = some (.int .i64 0) := fun i hi => by
        rcases (show i = 0 ∨ i = 1 ∨ i = 2 ∨ i = 3 by omega) with rfl | rfl | rfl | rfl <;> simp [World.cell?, HZ.out]
      have g0 := f1 0 (by omega)
      have g1 := f1 1 (by omega)
      have g2 := f1 2 (by omega)
      have g3 := f1 3 (by omega)
      go_region_with (go_at_call 63; refine (VH.out _).mono ?_; rintro e w' ⟨rfl, rfl⟩)
      all_goals go_wp2
      all_goals
        refine bodyPost_ret (v := .agg #[.int .i64 1, .int .i64 q, .int .i64 r, .int .i64 (Nu.val g q (r - q))]) (results_cell_row (p := 2) (ty := 102) Tryd.results62 _ _ w.heap.size 102 _ (0, 0) _ rfl (put4_heap (w := w1.drewN (nq + 1)) HZ.out _ _ _ _) Tryd.underlying102 rfl (by kernel_rfl)) rfl ?_
        exact ⟨r, HR.out, (HS1.out.drewN _).put4 (by omega) _ _ _ _, grownBy_put4 (grownBy_drewN HG2.out _) (Nat.le_refl _) _ _ _ _, .inl ⟨HN.out, rfl⟩⟩

end Go.Proofs.YtodlejemkihjnaaDoor

/-
  What the scanner's next does: it answers the next token and goes behind it, or gives up with the fault that the plain function tells.
-/
namespace Go.Proofs.YtodlejemkihjnaaDoor
open Go.RowKit

def tokV (t : Nu.Tok) : Value := .agg #[.int .i64 t.kind, .int .i64 t.at', .int .i64 t.fin, .int .i64 t.num]
def faultV (x : Nat × Int) : Value := .iface 110 (.agg #[.int .i64 x.1, .int .i64 x.2])

def NextPost (b : Nat) (ao : Option Addr) (n cap p : Nat) (g : Nat → Int) (w : World) (e : Ending) (w' : World) : Prop :=
  w.grownBy w' (some b) ∧ ((∃ t p', Nu.next g n p = .ok (t, p') ∧ e = .returned (tokV t) ∧ Scn w' b ao n cap p') ∨ (∃ x, Nu.next g n p = .error x ∧ e = .panicked [{ v := faultV x, recovered := false }]))

theorem field_tok (x0 x1 x2 x3 : Value) (W : World) : (Instr.field 102 (.agg #[x0, x1, x2, x3]) 0).run Tryd.prog W = .ok x0 W := by kernel_rfl

theorem results_tok {fn : Func} {p : Tmp} (h : fn.results = #[.cell p 102]) (tmps : Array Value) (W : World) (B : Nat) (x0 x1 x2 x3 : Value)
    (hp : tmps.getD p undef = .pointer (some ⟨B, 0, none⟩)) (hg : W.heap[B]? = some (.cells #[x0, x1, x2, x3] 102 (0, 0))) :
    (results fn tmps).run Tryd.prog W = .ok (.agg #[x0, x1, x2, x3]) W :=
  results_cell_row (p := p) (ty := 102) h tmps W B 102 _ (0, 0) _ hp hg Tryd.underlying102 rfl (by kernel_rfl)

set_option maxHeartbeats 2000000 in
theorem next_any (b : Nat) (ao : Option Addr) (n cap p : Nat) (g : Nat → Int) (w : World) (hs : Scn w b ao n cap p) (ht : HasText w ao n g) (ha : Apart ao b) (hp : p ≤ n) (hn : n ≤ 33554432) (hcap : n ≤ cap) :
    Calls Tryd.prog 56 #[.pointer (some ⟨b, 0, none⟩)] w (NextPost b ao n cap p g w) := by
  have hbs := hs.lt
  go_enter Tryd.func56, Tryd.ntmps56
  go_wp2_with fail
  refine (pass_blank b ao n cap p g _ (hs.alloc _) (ht.alloc _) ha hp hn).mono ?_
  rintro e w1 ⟨rfl, q, hq, hs1, hg1⟩
  have ht1 := (ht.alloc _).grown hg1 ha
  have z0 : w1.heap[w.heap.size]? = some (.cells #[.int .i64 0, .int .i64 0, .int .i64 0, .int .i64 0] 102 (0, 0)) := by
    rw [hg1.block w.heap.size (by simp) (by simp; omega)]; exact heap_alloc_new w _
  have f0 : ∀ i, w1.frozen? ⟨w.heap.size, i, none⟩ = false := fun i => by simp [World.frozen?, z0]
  have g0 : w1.cell? ⟨w.heap.size, 0, none⟩ = some (.int .i64 0) := by simp [World.cell?, z0]
  have g1 : w1.cell? ⟨w.heap.size, 1, none⟩ = some (.int .i64 0) := by simp [World.cell?, z0]
  have g2 : w1.cell? ⟨w.heap.size, 2, none⟩ = some (.int .i64 0) := by simp [World.cell?, z0]
  have g3 : w1.cell? ⟨w.heap.size, 3, none⟩ = some (.int .i64 0) := by simp [World.cell?, z0]
  have d0 := hs1.text
  have d1 := hs1.place
  have fz := hs1.free 1
  have hqn := hq.hi
  have hg2 : w.grownBy w1 (some b) := grownBy_trans (World.grownBy_alloc w _ _) hg1
  have HG2 := Nu.hid hg2
  have HS1 := Nu.hid hs1
  have HT1 := Nu.hid ht1
  have HT := Nu.hid ht
  have HZ := Nu.hid z0
  have HQ := Nu.hid hq
  clear hg2 hg1 hs1 ht1 ht z0 hq hs
  by_cases hA : q = n
  · subst hA
    go_wp2_with fail
    refine bodyPost_ret (v := tokV ⟨3, q, q, 0⟩) (results_tok (p := 2) Tryd.results56 _ _ w.heap.size _ _ _ _ rfl (put4_heap (w := w1) HZ.out _ _ _ _)) rfl ?_
    exact ⟨grownBy_put4 HG2.out (Nat.le_refl _) _ _ _ _, .inl ⟨_, _, Nu.next_end HQ.out, rfl, HS1.out.put4 (by omega) _ _ _ _⟩⟩
  · have hlt : q < n := by omega
    have j0 : ((q : Int) == (n : Int)) = false := by simp; omega
    have j1 : (q : Int) < (n : Int) := by omega
    obtain ⟨⟨b0, b1⟩, tb, to, rfl, cq⟩ := HT1.out q hlt
    cases hd : Nu.isDigit (g q)
    · by_cases h10 : g q = 10
      · have j2 : (g q == 10) = true := by simp [h10]
        have H10 := Nu.hid h10
        clear h10
        go_wp2_with (go_at_call 61; refine (digit_any _ _).mono ?_; rintro e w' ⟨rfl, rfl⟩)
        have z3 := (heap_setCell_other w' ⟨b, 1, none⟩ w.heap.size (.int .i64 ((q : Int) + 1)) (by simp; omega)).trans HZ.out
        refine bodyPost_ret (v := tokV ⟨2, q, (q : Int) + 1, 0⟩) (results_tok (p := 2) Tryd.results56 _ _ w.heap.size _ _ _ _ rfl (put4_heap z3 _ _ _ _)) rfl ?_
        exact ⟨grownBy_put4 (grownBy_setCell HG2.out 1 _) (Nat.le_refl _) _ _ _ _, .inl ⟨_, _, Nu.next_line HQ.out hlt H10.out, rfl, (HS1.out.set (q + 1)).put4 (by omega) _ _ _ _⟩⟩
      · have j2 : (g q == 10) = false := by simp [h10]
        go_wp2_with (go_at_call 61; refine (digit_any _ _).mono ?_; rintro e w' ⟨rfl, rfl⟩)
        exact ⟨rfl, HG2.out, .inr ⟨(q, 11), Nu.next_byte HQ.out hlt hd h10, rfl⟩⟩
    · go_wp2_with (first | (go_at_call 61; refine (digit_any _ _).mono ?_; rintro e w' ⟨rfl, rfl⟩) | (go_at_call 62; refine (number_any b tb to n cap q g _ HS1.out HT1.out (fun h => ha _ rfl h) hlt hd hn hcap).mono ?_; refine Hid.out ?_))
      refine Nu.hid ?_
      rintro e w2 ⟨r, hr, hs2, hg3, hx⟩
      have z2 : w2.heap[w.heap.size]? = some (.cells #[.int .i64 0, .int .i64 0, .int .i64 0, .int .i64 0] 102 (0, 0)) := by
        rw [hg3.block w.heap.size (lt_of_block HZ.out) (by simp; omega)]; exact HZ.out
      rcases hx with ⟨hb, rfl⟩ | ⟨hb, rfl⟩
      · have HR := Nu.hid hr
        have HS2 := Nu.hid hs2
        have HG3 := Nu.hid (grownBy_trans HG2.out hg3)
        have HB := Nu.hid hb
        have HZ2 := Nu.hid z2
        clear g0 g1 g2 g3 f0 d0 d1 fz cq
        have f0 : ∀ i, w2.frozen? ⟨w.heap.size, i, none⟩ = false := fun i => by simp [World.frozen?, z2]
        have g0 : w2.cell? ⟨w.heap.size, 0, none⟩ = some (.int .i64 0) := by simp [World.cell?, z2]
        have g1 : w2.cell? ⟨w.heap.size, 1, none⟩ = some (.int .i64 0) := by simp [World.cell?, z2]
        have g2 : w2.cell? ⟨w.heap.size, 2, none⟩ = some (.int .i64 0) := by simp [World.cell?, z2]
        have g3 : w2.cell? ⟨w.heap.size, 3, none⟩ = some (.int .i64 0) := by simp [World.cell?, z2]
        clear hr hs2 hg3 hb z2
        go_wp2
        refine bodyPost_ret (v := tokV ⟨1, q, r, Nu.val g q (r - q)⟩) (results_tok (p := 2) Tryd.results56 _ _ w.heap.size _ _ _ _ rfl (put4_heap HZ2.out _ _ _ _)) rfl ?_
        exact ⟨grownBy_put4 HG3.out (Nat.le_refl _) _ _ _ _, .inl ⟨_, _, Nu.next_num HQ.out hlt hd HR.out HB.out, rfl, HS2.out.put4 (by omega) _ _ _ _⟩⟩
      · exact ⟨rfl, grownBy_trans HG2.out hg3, .inr ⟨(q, 12), Nu.next_bad HQ.out hlt hd hr hb, rfl⟩⟩

end Go.Proofs.YtodlejemkihjnaaDoor

/-
  What count answers: how many tokens the text has, or it gives up with the first fault.
-/
namespace Go.Proofs.YtodlejemkihjnaaDoor
open Go.RowKit

def CountPost (n : Nat) (g : Nat → Int) (w : World) (e : Ending) (w' : World) : Prop :=
  w.grownBy w' none ∧ ((∃ ts, Nu.scan g n = .ok ts ∧ e = .returned (.int .i64 ts.length)) ∨ (∃ x, Nu.scan g n = .error x ∧ e = .panicked [{ v := faultV x, recovered := false }]))

/-- Writes to a block that was not there are no writes to what was. -/
theorem grownBy_new {w w1 w2 : World} {b : Nat} (h : w.grownBy w1 none) (hb : w.heap.size ≤ b) (k : w1.grownBy w2 (some b)) : w.grownBy w2 none :=
  ⟨k.os.trans h.os, k.tape.trans h.tape, k.output.trans h.output, Nat.le_trans h.size k.size, fun i hi _ => (k.block i (Nat.lt_of_lt_of_le hi h.size) (by simp; omega)).trans (h.block i hi (by simp))⟩

theorem HasText.apart {w : World} {ao : Option Addr} {n : Nat} {g : Nat → Int} (h : HasText w ao n g) (hn : 0 < n) : Apart ao w.heap.size := by
  intro x hx
  obtain ⟨_, tb, to, e, hc⟩ := h 0 hn
  rw [hx] at e
  cases e
  have := block_lt_of_cell hc
  simp at this ⊢
  omega

set_option maxHeartbeats 2000000 in
theorem count_any (ao : Option Addr) (n cap : Nat) (g : Nat → Int) (w : World) (ht : HasText w ao n g) (ha : Apart ao w.heap.size) (hn : n ≤ 33554432) (hcap : n ≤ cap) :
    Calls Tryd.prog 50 #[.slice ao n cap] w (CountPost n g w) := by
  have hft := field_tok
  go_enter Tryd.func50, Tryd.ntmps50
  go_wp2
  go_loopw [4] (fun c wr => ∃ (ts : List Nu.Tok) (p k : Nat), p ≤ n ∧ n - p < k ∧ ts.length ≤ p ∧ Nu.scan g n = Nu.pre ts (Nu.scanF g n k p) ∧ c = .int .i64 (ts.length + 1 : Nat) ∧ Scn wr w.heap.size ao n cap p ∧ w.grownBy wr none) (fun _ wr => n - posOf wr w.heap.size)
  case atStart =>
    refine ⟨[], 0, n + 1, Nat.zero_le _, by omega, Nat.le_refl _, (Nu.pre_nil _).symm, rfl, ?_, World.grownBy_alloc _ _ _⟩
    exact heap_alloc_new w _
  case round =>
    obtain ⟨ts, p, k, hp, hk, hl, hscan, rfl, hs, hg⟩ := hrel
    obtain ⟨k, rfl⟩ : ∃ k', k = k' + 1 := ⟨k - 1, by omega⟩
    have HSC := Nu.hid hscan
    have HT := Nu.hid ht
    have HPOS := Nu.hid hs.pos
    clear hscan ht
    go_wp2_with (go_at_call 56; refine (next_any w.heap.size ao n cap p g _ hs (HT.out.grown0 hg) ha hp hn hcap).mono ?_; refine Hid.out ?_)
    refine Nu.hid ?_
    rintro e w1 ⟨hg1, hx⟩
    have HG := Nu.hid (grownBy_new hg (Nat.le_refl _) hg1)
    rcases hx with ⟨t, p', hnx, rfl, hs1⟩ | ⟨x, hnx, rfl⟩
    · have hm := Nu.next_moves hp hnx
      have hf := Nu.next_fits hp hnx
      have HS1 := Nu.hid hs1
      have HNX := Nu.hid hnx
      clear hnx hs1 hg hg1 hs
      unfold tokV
      by_cases h3 : t.kind = 3
      · have j3 : (t.kind != 3) = false := by simp [h3]
        have H3 := Nu.hid h3
        clear h3
        go_wp2
        go_ret
        refine ⟨HG.out, .inl ⟨ts ++ [t], ?_, by simp⟩⟩
        rw [HSC.out, Nu.scanF_last k HNX.out H3.out]
        rfl
      · have j3 : (t.kind != 3) = true := by simp [h3]
        have hp' := hm.2 h3
        have H3 := Nu.hid h3
        clear h3
        go_wp2
        go_roundw
        case rel =>
          refine ⟨ts ++ [t], p', k, hm.1, by omega, by simp; omega, ?_, by simp, HS1.out, HG.out⟩
          rw [HSC.out, Nu.scanF_more k HNX.out H3.out, Nu.pre_pre]
        case measure =>
          have e1 := HS1.out.pos
          have e2 : posOf wr w.heap.size = p := HPOS.out
          rw [e1, e2]
          omega
    · refine ⟨rfl, HG.out, .inr ⟨x, ?_, rfl⟩⟩
      rw [HSC.out, Nu.scanF_fault k hnx]
      rfl

end Go.Proofs.YtodlejemkihjnaaDoor

/-
  What gather answers where the scan goes right: the tokens, in new memory.
-/
namespace Go.Proofs.YtodlejemkihjnaaDoor
open Go.RowKit

theorem Tryd.infoTok : (Tryd.prog.info? 102).map (fun i => (i.zero, i.size, i.bytes)) = some (some (.agg #[.int .i64 0, .int .i64 0, .int .i64 0, .int .i64 0]), 4, 32) := by kernel_rfl

/-- The cells of arr hold the tokens us, one behind the other. -/
def TokCells (arr : Array Value) (us : List Nu.Tok) : Prop :=
  ∀ j t, us[j]? = some t → arr[j * 4]? = some (.int .i64 t.kind) ∧ arr[j * 4 + 1]? = some (.int .i64 t.at') ∧ arr[j * 4 + 2]? = some (.int .i64 t.fin) ∧ arr[j * 4 + 3]? = some (.int .i64 t.num)

/-- Block T is a row of m tokens, the first of which are us. -/
def RowToks (W : World) (T m : Nat) (us : List Nu.Tok) : Prop :=
  ∃ arr, W.heap[T]? = some (.cells arr 102 (0, 0)) ∧ arr.size = m * 4 ∧ TokCells arr us

/-- Four stores into block B from place o on. -/
def put4at (w : World) (B o : Nat) (a b c d : Value) : World := (((w.setCell ⟨B, o, none⟩ a).setCell ⟨B, o + 1, none⟩ b).setCell ⟨B, o + 2, none⟩ c).setCell ⟨B, o + 3, none⟩ d

theorem put4at_other {w : World} {B k : Nat} (hk : k ≠ B) (o : Nat) (a b c d : Value) : (put4at w B o a b c d).heap[k]? = w.heap[k]? := by
  unfold put4at
  rw [heap_setCell_other _ ⟨B, o + 3, none⟩ k d hk, heap_setCell_other _ ⟨B, o + 2, none⟩ k c hk, heap_setCell_other _ ⟨B, o + 1, none⟩ k b hk, heap_setCell_other _ ⟨B, o, none⟩ k a hk]

theorem put4at_size (w : World) (B o : Nat) (a b c d : Value) : (put4at w B o a b c d).heap.size = w.heap.size := by simp [put4at]

theorem put4at_heap {w : World} {B : Nat} {t : TypeId} {arr : Array Value} (h : w.heap[B]? = some (.cells arr t (0, 0))) (o : Nat) (a b c d : Value) :
    (put4at w B o a b c d).heap[B]? = some (.cells ((((arr.setIfInBounds o a).setIfInBounds (o + 1) b).setIfInBounds (o + 2) c).setIfInBounds (o + 3) d) t (0, 0)) := by
  have h1 := heap_setCell_same w B o _ t a h
  have h2 := heap_setCell_same _ B (o + 1) _ t b h1
  have h3 := heap_setCell_same _ B (o + 2) _ t c h2
  exact heap_setCell_same _ B (o + 3) _ t d h3

theorem RowToks.push {w : World} {T m : Nat} {arr : Array Value} {us : List Nu.Tok} (har : w.heap[T]? = some (.cells arr 102 (0, 0))) (hsz : arr.size = m * 4) (hac : TokCells arr us) (hlt : us.length < m) (t : Nu.Tok) :
    RowToks (put4at w T (us.length * 4) (.int .i64 t.kind) (.int .i64 t.at') (.int .i64 t.fin) (.int .i64 t.num)) T m (us ++ [t]) := by
  refine ⟨_, put4at_heap har _ _ _ _ _, by simpa using hsz, fun j u hj => ?_⟩
  by_cases hlt' : j < us.length
  · rw [List.getElem?_append_left hlt'] at hj
    obtain ⟨h0, h1, h2, h3⟩ := hac j u hj
    refine ⟨?_, ?_, ?_, ?_⟩
    all_goals
      rw [Array.getElem?_setIfInBounds_ne (by omega), Array.getElem?_setIfInBounds_ne (by omega), Array.getElem?_setIfInBounds_ne (by omega), Array.getElem?_setIfInBounds_ne (by omega)]
      assumption
  · have hj' : j = us.length := by
      have h := (List.getElem?_eq_some_iff.1 hj).1
      simp at h
      omega
    subst hj'
    simp at hj
    subst hj
    refine ⟨?_, ?_, ?_, ?_⟩
    · rw [Array.getElem?_setIfInBounds_ne (by omega), Array.getElem?_setIfInBounds_ne (by omega), Array.getElem?_setIfInBounds_ne (by omega), Array.getElem?_setIfInBounds_self_of_lt (by omega)]
    · rw [Array.getElem?_setIfInBounds_ne (by omega), Array.getElem?_setIfInBounds_ne (by omega), Array.getElem?_setIfInBounds_self_of_lt (by simp; omega)]
    · rw [Array.getElem?_setIfInBounds_ne (by omega), Array.getElem?_setIfInBounds_self_of_lt (by simp; omega)]
    · rw [Array.getElem?_setIfInBounds_self_of_lt (by simp; omega)]

theorem grownBy_put4at {w0 w : World} {r : Option Nat} (h : w0.grownBy w r) {B : Nat} (hB : w0.heap.size ≤ B) (o : Nat) (x0 x1 x2 x3 : Value) : w0.grownBy (put4at w B o x0 x1 x2 x3) r :=
  ⟨h.os, h.tape, h.output, by rw [put4at_size]; exact h.size, fun k hk hne => (put4at_other (by omega) o x0 x1 x2 x3).trans (h.block k hk hne)⟩

set_option maxHeartbeats 2000000 in
theorem gather_any (ao : Option Addr) (n cap : Nat) (g : Nat → Int) (ts : List Nu.Tok) (w : World) (ht : HasText w ao n g) (ha : Apart ao w.heap.size) (hn : n ≤ 33554432) (hcap : n ≤ cap) (hscan : Nu.scan g n = .ok ts) :
    Calls Tryd.prog 49 #[.slice ao n cap, .int .i64 ts.length] w fun e w' =>
      ∃ T, e = .returned (.slice (some ⟨T, 0, none⟩) ts.length ts.length) ∧ w.heap.size ≤ T ∧ RowToks w' T ts.length ts ∧ w.grownBy w' none := by
  have hlen := Nu.scan_length hscan
  obtain ⟨i0, hi, hz0, hz1, hz2⟩ := info_parts Tryd.infoTok
  have HSC := Nu.hid hscan
  have HT := Nu.hid ht
  clear hscan ht
  go_enter Tryd.func49, Tryd.ntmps49
  go_wp2_with (at_make; refine wpList_make_full _ rfl _ _ 97 rfl w.heap.size 102 i0 (.agg #[.int .i64 0, .int .i64 0, .int .i64 0, .int .i64 0]) 4 Tryd.underlying97 hi hz0 hz1 .i64 .i64 _ _ ts.length rfl rfl rfl rfl (by rw [hz2]; omega) (by unfold maxLen; omega) (by simp) ?_; intro w1 hown hgrow; refine Hid.out ?_)
  refine Nu.hid ?_
  have hT : (w.alloc (.cells #[.slice ao n cap, .int .i64 0] 121)).heap.size = w.heap.size + 1 := by simp
  rw [hT] at hown
  have hrow : RowToks w1 (w.heap.size + 1) ts.length [] := by
    rcases hown.2 with ⟨h, _⟩ | ⟨gb, c, cur, e, _, hh, _, _, hsz, _⟩
    · cases h
    · cases e
      exact ⟨cur, hh, hsz, fun j t h => by simp at h⟩
  have hs1 : Scn w1 w.heap.size ao n cap 0 := Scn.kept (r := none) (heap_alloc_new w _) hgrow (by simp)
  have hg1 : w.grownBy w1 none := grownBy_trans (World.grownBy_alloc w _ none) hgrow
  have HG1 := Nu.hid hg1
  have HS1 := Nu.hid hs1
  have HR := Nu.hid hrow
  clear hg1 hs1 hrow hown hgrow hT
  go_wp2
  go_loopw [14] (fun c wr => ∃ (us vs : List Nu.Tok) (p k : Nat), ts = us ++ vs ∧ p ≤ n ∧ Nu.scanF g n k p = .ok vs ∧ c = .int .i64 us.length ∧ Scn wr w.heap.size ao n cap p ∧ RowToks wr (w.heap.size + 1) ts.length us ∧ w.grownBy wr none) (fun c _ => ts.length - (intOf c).toNat)
  case atStart => exact ⟨[], ts, 0, n + 1, rfl, Nat.zero_le _, HSC.out, rfl, HS1.out, HR.out, HG1.out⟩
  case round =>
    obtain ⟨us, vs, p, k, hts, hp, hsf, rfl, hs, hr, hg⟩ := hrel
    have hl : ts.length = us.length + vs.length := by rw [hts]; simp
    cases vs with
    | nil =>
      have hd : ¬ ((us.length : Int) < (ts.length : Int)) := by simp at hl; omega
      have HTS := Nu.hid hts
      clear hts hl hsf
      go_wp2
      go_ret
      have e := HTS.out
      rw [List.append_nil] at e
      subst e
      exact ⟨_, rfl, by omega, hr, hg⟩
    | cons t vs =>
      have hlt : (us.length : Int) < (ts.length : Int) := by simp at hl; omega
      have hle : us.length < ts.length := by simp at hl; omega
      obtain ⟨p', hnx, hp', k', hsf'⟩ := Nu.scanF_cons hp hsf
      have HTS := Nu.hid hts
      have HNX := Nu.hid hnx
      have HSF := Nu.hid hsf'
      have HRW := Nu.hid hr
      have HG := Nu.hid hg
      clear hts hl hsf hnx hsf' hr hg
      go_wp2_with (go_at_call 56; refine (next_any w.heap.size ao n cap p g _ hs (HT.out.grown0 HG.out) ha hp hn hcap).mono ?_; refine Hid.out ?_)
      refine Nu.hid ?_
      rintro e w2 ⟨hg2, hx⟩
      rcases hx with ⟨t2, p2, hnx2, rfl, hs2⟩ | ⟨x, hnx2, rfl⟩
      · rw [HNX.out] at hnx2
        cases hnx2
        obtain ⟨arr, har, hasz, hac⟩ := HRW.out
        have har2 : w2.heap[w.heap.size + 1]? = some (.cells arr 102 (0, 0)) := (hg2.block _ (lt_of_block har) (by simp)).trans har
        have HG2 := Nu.hid (grownBy_new HG.out (Nat.le_refl _) hg2)
        have HS2 := Nu.hid hs2
        have HAR := Nu.hid har2
        have HAC := Nu.hid hac
        have f0 : ∀ i, w2.frozen? ⟨w.heap.size + 1, i, none⟩ = false := fun i => by simp [World.frozen?, har2]
        have hc : ∀ i, i < ts.length * 4 → ∃ v, w2.cell? ⟨w.heap.size + 1, i, none⟩ = some v := fun i hi => ⟨arr[i]'(by omega), by rw [cell_of_row w2 _ i arr _ _ har2]; simp⟩
        obtain ⟨v0, c0⟩ := hc (us.length * 4) (by omega)
        obtain ⟨v1, c1⟩ := hc (us.length * 4 + 1) (by omega)
        obtain ⟨v2, c2⟩ := hc (us.length * 4 + 2) (by omega)
        obtain ⟨v3, c3⟩ := hc (us.length * 4 + 3) (by omega)
        clear hg2 hs2 har2 hac hc har hs
        unfold tokV
        go_wp2
        go_roundw
        case rel =>
          refine ⟨us ++ [t], vs, p', k', by rw [HTS.out]; simp, hp', HSF.out, by simp, ?_, ?_, ?_⟩
          · exact (put4at_other (w := w2) (by omega) (us.length * 4) _ _ _ _).trans HS2.out
          · exact RowToks.push HAR.out hasz HAC.out hle t
          · exact grownBy_put4at HG2.out (by omega) (us.length * 4) _ _ _ _
        case measure => simp [intOf]; omega
      · rw [HNX.out] at hnx2
        cases hnx2

end Go.Proofs.YtodlejemkihjnaaDoor
