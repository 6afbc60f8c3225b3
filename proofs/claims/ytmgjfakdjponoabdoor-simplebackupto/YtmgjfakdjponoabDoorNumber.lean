/-
  What the scanner's number does at a digit: it answers the run's token, or gives up with the fault 12 at the run's place.
-/
import Derived.Test.YtmgjfakdjponoabDoorPass
import Derived.Test.YtmgjfakdjponoabDoorValue
import Derived.Deep.RegionWith
namespace Go.Proofs.YtmgjfakdjponoabDoor
open Go.RowKit

theorem Nu.val_shift (g : Nat → Int) (q : Nat) : ∀ k, Nu.val (fun i => g (q + i)) 0 k = Nu.val g q k
  | 0 => rfl
  | k + 1 => by simp [Nu.val, Nu.val_shift g q k]

theorem HasText.cut {w : World} {tb to n : Nat} {g : Nat → Int} (h : HasText w (some ⟨tb, to, none⟩) n g) {q r : Nat} (hr : r ≤ n) (_hq : q ≤ r) : HasText w (some ⟨tb, to + q, none⟩) (r - q) (fun i => g (q + i)) := by
  intro i hi
  obtain ⟨hb, tb', to', e, hc⟩ := h (q + i) (by omega)
  simp only [Option.some.injEq, Addr.mk.injEq] at e
  obtain ⟨rfl, rfl, _⟩ := e
  exact ⟨hb, tb, to + q, rfl, by rw [← Nat.add_assoc] at hc; exact hc⟩

set_option maxHeartbeats 1000000 in
theorem number_any (b : Nat) (tb to n cap q : Nat) (g : Nat → Int) (w : World) (hs : Scn w b (some ⟨tb, to, none⟩) n cap q) (ht : HasText w (some ⟨tb, to, none⟩) n g) (ha : tb ≠ b) (hq : q < n) (hd : Nu.isDigit (g q) = true) (hn : n ≤ 33554432) (hcap : n ≤ cap) :
    Calls Tryd.prog 86 #[.pointer (some ⟨b, 0, none⟩)] w fun e w' =>
      ∃ r, Nu.IsSkip Nu.isDigit g n q r ∧ Scn w' b (some ⟨tb, to, none⟩) n cap r ∧ w.grownBy w' (some b) ∧
        ((¬ (9 < r - q ∨ (1 < r - q ∧ g q = 48)) ∧ e = .returned (.agg #[.int .i64 1, .int .i64 q, .int .i64 r, .int .i64 (Nu.val g q (r - q))])) ∨
         ((9 < r - q ∨ (1 < r - q ∧ g q = 48)) ∧ e = .panicked [{ v := .iface 106 (.agg #[.int .i64 q, .int .i64 12]), recovered := false }])) := by
  have c0 := hs.text
  have c1 := hs.place
  have hbs := hs.lt
  go_enter Tryd.func86, Tryd.ntmps86
  go_wp2_with fail
  refine (pass_digit b _ n cap q g _ (hs.alloc _) (ht.alloc _) (fun x hx => by cases hx; exact ha) (by omega) hn).mono ?_
  rintro e w1 ⟨rfl, r, hr, hs1, hg1⟩
  have ht1 := (ht.alloc _).grown hg1 (fun x hx => by cases hx; exact ha)
  have hqr : q < r := by
    rcases Nat.lt_or_ge q r with h | h
    · exact h
    · have e : q = r := Nat.le_antisymm hr.lo h
      subst e
      rw [hr.stop hq] at hd
      cases hd
  have hrn := hr.hi
  have cell0 := (ht1 q hq).2
  obtain ⟨_, _, e, cq⟩ := cell0
  cases e
  have d0 := hs1.text
  have d1 := hs1.place
  have z0 : w1.heap[w.heap.size]? = some (.cells #[.int .i64 0, .int .i64 0, .int .i64 0, .int .i64 0] 113 (0, 0)) := by
    rw [hg1.block w.heap.size (by simp) (by simp; omega)]; exact heap_alloc_new w _
  have HZ := Nu.hid z0
  have HD := Nu.hid hd
  have HT := Nu.hid ht
  have HT1 := Nu.hid ht1
  clear z0 hd ht ht1 c0 c1
  have i1 : (q : Int) ≤ (r : Int) := by omega
  have i2 : (r : Int) ≤ (cap : Int) := by omega
  have hg2 : w.grownBy w1 (some b) := grownBy_trans (World.grownBy_alloc w _ _) hg1
  have HG2 := Nu.hid hg2
  have HG1 := Nu.hid hg1
  have HR := Nu.hid hr
  have HS1 := Nu.hid hs1
  clear hg2 hg1 hr hs1
  by_cases hA : 9 < r - q
  · have j1 : (9 : Int) < ((r - q : Nat) : Int) := by omega
    go_wp2_with fail
    go_quiet (fail)
    go_wp2
    exact ⟨rfl, r, HR.out, HS1.out.drewN _, grownBy_drewN HG2.out _, .inr ⟨.inl hA, rfl⟩⟩
  · have j1 : ((r - q : Nat) : Int) ≤ 9 := by omega
    have j1' : decide ((9 : Int) < ((r - q : Nat) : Int)) = false := by simp; omega
    by_cases hB : 1 < r - q
    · have j2 : (1 : Int) < ((r - q : Nat) : Int) := by omega
      by_cases hC : g q = 48
      · have j3 : (g q == 48) = true := by simp [hC]
        have HC := Nu.hid hC
        clear hC
        go_wp2_with fail
        go_quiet (fail)
        go_wp2
        exact ⟨rfl, r, HR.out, HS1.out.drewN _, grownBy_drewN HG2.out _, .inr ⟨.inr ⟨hB, HC.out⟩, rfl⟩⟩
      · have j3 : (g q == 48) = false := by simp [hC]
        have HN := Nu.hid (show ¬ (9 < r - q ∨ (1 < r - q ∧ g q = 48)) from fun h => h.elim hA fun h => hC h.2)
        clear hC
        go_wp2_with fail
        go_quiet (fail)
        go_wp2_with fail
        have vd : ∀ i, i < r - q → 48 ≤ g (q + i) ∧ g (q + i) ≤ 57 := fun i hi => by
          have := HR.out.all (q + i) (by omega) (by omega)
          simpa [Nu.isDigit] using this
        have V := fun (k : Nat) => value_any (some ⟨tb, to + q, none⟩) (r - q) (cap - q) (fun i => g (q + i)) (w1.drewN k) ((HT1.out.drewN k).cut (by omega) (by omega)) (by omega) vd
        rw [Nu.val_shift] at V
        have VH := Nu.hid V
        clear V vd
        have f0 : ∀ i, w1.frozen? ⟨w.heap.size, i, none⟩ = false := fun i => by simp [World.frozen?, HZ.out]
        have f1 : ∀ i, i < 4 → w1.cell? ⟨w.heap.size, i, none⟩ = some (.int .i64 0) := fun i hi => by
          rcases (show i = 0 ∨ i = 1 ∨ i = 2 ∨ i = 3 by omega) with rfl | rfl | rfl | rfl <;> simp [World.cell?, HZ.out]
        have g0 := f1 0 (by omega)
        have g1 := f1 1 (by omega)
        have g2 := f1 2 (by omega)
        have g3 := f1 3 (by omega)
        go_region_with (go_at_call 89; refine (VH.out _).mono ?_; rintro e w' ⟨rfl, rfl⟩)
        all_goals go_wp2
        all_goals
          refine bodyPost_ret (v := .agg #[.int .i64 1, .int .i64 q, .int .i64 r, .int .i64 (Nu.val g q (r - q))]) (results_cell_row (p := 2) (ty := 113) Tryd.results86 _ _ w.heap.size 113 _ (0, 0) _ rfl (put4_heap (w := w1.drewN (nq + 1)) HZ.out _ _ _ _) Tryd.underlying113 rfl (by kernel_rfl)) rfl ?_
          exact ⟨r, HR.out, (HS1.out.drewN _).put4 (by omega) _ _ _ _, grownBy_put4 (grownBy_drewN HG2.out _) (Nat.le_refl _) _ _ _ _, .inl ⟨HN.out, rfl⟩⟩
    · have j2 : decide ((1 : Int) < ((r - q : Nat) : Int)) = false := by simp; omega
      have HN := Nu.hid (show ¬ (9 < r - q ∨ (1 < r - q ∧ g q = 48)) from fun h => h.elim hA fun h => hB h.1)
      go_wp2_with fail
      go_quiet (fail)
      go_wp2_with fail
      have vd : ∀ i, i < r - q → 48 ≤ g (q + i) ∧ g (q + i) ≤ 57 := fun i hi => by
        have := HR.out.all (q + i) (by omega) (by omega)
        simpa [Nu.isDigit] using this
      have V := fun (k : Nat) => value_any (some ⟨tb, to + q, none⟩) (r - q) (cap - q) (fun i => g (q + i)) (w1.drewN k) ((HT1.out.drewN k).cut (by omega) (by omega)) (by omega) vd
      rw [Nu.val_shift] at V
      have VH := Nu.hid V
      clear V vd
      have f0 : ∀ i, w1.frozen? ⟨w.heap.size, i, none⟩ = false := fun i => by simp [World.frozen?, HZ.out]
      have f1 : ∀ i, i < 4 → w1.cell? ⟨w.heap.size, i, none⟩ = some (.int .i64 0) := fun i hi => by
        rcases (show i = 0 ∨ i = 1 ∨ i = 2 ∨ i = 3 by omega) with rfl | rfl | rfl | rfl <;> simp [World.cell?, HZ.out]
      have g0 := f1 0 (by omega)
      have g1 := f1 1 (by omega)
      have g2 := f1 2 (by omega)
      have g3 := f1 3 (by omega)
      go_region_with (go_at_call 89; refine (VH.out _).mono ?_; rintro e w' ⟨rfl, rfl⟩)
      all_goals go_wp2
      all_goals
        refine bodyPost_ret (v := .agg #[.int .i64 1, .int .i64 q, .int .i64 r, .int .i64 (Nu.val g q (r - q))]) (results_cell_row (p := 2) (ty := 113) Tryd.results86 _ _ w.heap.size 113 _ (0, 0) _ rfl (put4_heap (w := w1.drewN (nq + 1)) HZ.out _ _ _ _) Tryd.underlying113 rfl (by kernel_rfl)) rfl ?_
        exact ⟨r, HR.out, (HS1.out.drewN _).put4 (by omega) _ _ _ _, grownBy_put4 (grownBy_drewN HG2.out _) (Nat.le_refl _) _ _ _ _, .inl ⟨HN.out, rfl⟩⟩

end Go.Proofs.YtmgjfakdjponoabDoor
