import Derived.Test.YtfjgmbimapkabaaDoorMg05
import Derived.Outline
import Derived.Deep.RegionWith
/-
  What the scanner's pass does: it goes to the first byte of another kind.
-/
namespace Go.Proofs.YtfjgmbimapkabaaDoor
open Go.RowKit

set_option maxHeartbeats 1000000 in
theorem pass_digit (b : Nat) (ao : Option Addr) (n cap p : Nat) (g : Nat → Int) (w : World) (hs : Scn w b ao n cap p) (ht : HasText w ao n g) (ha : Apart ao b) (hp : p ≤ n) (hn : n ≤ 33554432) :
    Calls Tryd.prog 66 #[.pointer (some ⟨b, 0, none⟩), .func (.func 68) #[] #[]] w fun e w' =>
      e = .returned (.tuple #[]) ∧ ∃ q, Nu.IsSkip Nu.isDigit g n p q ∧ Scn w' b ao n cap q ∧ w.grownBy w' (some b) := by
  go_enter Tryd.func66, Tryd.ntmps66
  go_wp2
  go_loopw [] (fun wr => ∃ q : Nat, p ≤ q ∧ q ≤ n ∧ (∀ i, p ≤ i → i < q → Nu.isDigit (g i) = true) ∧ Scn wr b ao n cap q ∧ w.grownBy wr (some b)) (fun wr => n - posOf wr b)
  case atStart => exact ⟨p, Nat.le_refl _, hp, fun i h1 h2 => by omega, hs, World.grownBy.refl _ _⟩
  case round =>
    obtain ⟨q, hq0, hq1, hall, hsr, hgr⟩ := hrel
    have c0 := hsr.text
    have c1 := hsr.place
    have fz := hsr.free 1
    have HP : Hid (posOf wr b = q) := hsr.pos
    by_cases hlt : q < n
    · obtain ⟨⟨b0, b1⟩, tb, to, rfl, hcr⟩ := (ht.grown hgr ha) q hlt
      have hlti : (q : Int) < (n : Int) := by omega
      have hq0' : (0 : Int) ≤ (q : Int) := by omega
      have ht' := Nu.hid ht
      have hall' := Nu.hid hall
      clear ht hall
      cases hd : Nu.isDigit (g q)
      · go_wp2_with fail
        go_quiet ((go_at_call 68; exact Calls.quiet_of_same (digit_any _ _)))
        go_wp2
        go_end0
        exact ⟨rfl, q, ⟨hq0, hq1, hall'.out, fun _ => hd⟩, hsr.drewN _, grownBy_drewN hgr _⟩
      · go_wp2_with fail
        go_quiet ((go_at_call 68; exact Calls.quiet_of_same (digit_any _ _)))
        go_wp2
        go_roundw
        case rel =>
          refine ⟨q + 1, by omega, by omega, fun i h1 h2 => ?_, ?_, ?_⟩
          · by_cases e : i = q
            · subst e; exact hd
            · exact hall'.out i h1 (by omega)
          · exact (hsr.drewN _).set (q + 1)
          · exact grownBy_setCell (grownBy_drewN hgr _) 1 _
        case measure =>
          have e1 : posOf ((wr.drewN nq).setCell ⟨b, 1, none⟩ (.int .i64 ((q : Int) + 1))) b = q + 1 := ((hsr.drewN nq).set (q + 1)).pos
          have e2 : posOf wr b = q := HP.out
          rw [e1, e2]
          omega
    · have hd : decide ((q : Int) < (n : Int)) = false := by simp; omega
      have hqn : q = n := by omega
      have HQ := Nu.hid hqn
      clear hqn
      go_wp2_with fail
      go_quiet (fail)
      go_wp2
      go_end0
      exact ⟨rfl, q, ⟨hq0, hq1, hall, fun h => absurd h hlt⟩, hsr.drewN _, grownBy_drewN hgr _⟩

set_option maxHeartbeats 1000000 in
theorem pass_blank (b : Nat) (ao : Option Addr) (n cap p : Nat) (g : Nat → Int) (w : World) (hs : Scn w b ao n cap p) (ht : HasText w ao n g) (ha : Apart ao b) (hp : p ≤ n) (hn : n ≤ 33554432) :
    Calls Tryd.prog 66 #[.pointer (some ⟨b, 0, none⟩), .func (.func 67) #[] #[]] w fun e w' =>
      e = .returned (.tuple #[]) ∧ ∃ q, Nu.IsSkip Nu.isBlank g n p q ∧ Scn w' b ao n cap q ∧ w.grownBy w' (some b) := by
  go_enter Tryd.func66, Tryd.ntmps66
  go_wp2
  go_loopw [] (fun wr => ∃ q : Nat, p ≤ q ∧ q ≤ n ∧ (∀ i, p ≤ i → i < q → Nu.isBlank (g i) = true) ∧ Scn wr b ao n cap q ∧ w.grownBy wr (some b)) (fun wr => n - posOf wr b)
  case atStart => exact ⟨p, Nat.le_refl _, hp, fun i h1 h2 => by omega, hs, World.grownBy.refl _ _⟩
  case round =>
    obtain ⟨q, hq0, hq1, hall, hsr, hgr⟩ := hrel
    have c0 := hsr.text
    have c1 := hsr.place
    have fz := hsr.free 1
    have HP : Hid (posOf wr b = q) := hsr.pos
    by_cases hlt : q < n
    · obtain ⟨⟨b0, b1⟩, tb, to, rfl, hcr⟩ := (ht.grown hgr ha) q hlt
      have hlti : (q : Int) < (n : Int) := by omega
      have hq0' : (0 : Int) ≤ (q : Int) := by omega
      have ht' := Nu.hid ht
      have hall' := Nu.hid hall
      clear ht hall
      cases hd : Nu.isBlank (g q)
      · go_wp2_with fail
        go_quiet ((go_at_call 67; exact Calls.quiet_of_same (blank_any _ _)))
        go_wp2
        go_end0
        exact ⟨rfl, q, ⟨hq0, hq1, hall'.out, fun _ => hd⟩, hsr.drewN _, grownBy_drewN hgr _⟩
      · go_wp2_with fail
        go_quiet ((go_at_call 67; exact Calls.quiet_of_same (blank_any _ _)))
        go_wp2
        go_roundw
        case rel =>
          refine ⟨q + 1, by omega, by omega, fun i h1 h2 => ?_, ?_, ?_⟩
          · by_cases e : i = q
            · subst e; exact hd
            · exact hall'.out i h1 (by omega)
          · exact (hsr.drewN _).set (q + 1)
          · exact grownBy_setCell (grownBy_drewN hgr _) 1 _
        case measure =>
          have e1 : posOf ((wr.drewN nq).setCell ⟨b, 1, none⟩ (.int .i64 ((q : Int) + 1))) b = q + 1 := ((hsr.drewN nq).set (q + 1)).pos
          have e2 : posOf wr b = q := HP.out
          rw [e1, e2]
          omega
    · have hd : decide ((q : Int) < (n : Int)) = false := by simp; omega
      have hqn : q = n := by omega
      have HQ := Nu.hid hqn
      clear hqn
      go_wp2_with fail
      go_quiet (fail)
      go_wp2
      go_end0
      exact ⟨rfl, q, ⟨hq0, hq1, hall, fun h => absurd h hlt⟩, hsr.drewN _, grownBy_drewN hgr _⟩

end Go.Proofs.YtfjgmbimapkabaaDoor
/-
  What value answers: the number that at most nine digits write.
-/
namespace Go.Proofs.YtfjgmbimapkabaaDoor
open Go.RowKit

set_option maxHeartbeats 1000000 in
theorem value_any (ao : Option Addr) (n cap : Nat) (g : Nat → Int) (w : World) (ht : HasText w ao n g) (hn : n ≤ 9) (hd : ∀ i, i < n → 48 ≤ g i ∧ g i ≤ 57) :
    Calls Tryd.prog 72 #[.slice ao n cap] w fun e w' => e = .returned (.int .i64 (Nu.val g 0 n)) ∧ w' = w := by
  go_enter Tryd.func72, Tryd.ntmps72
  go_wp2
  go_loop [3, 8] (fun v i => ∃ k : Nat, k ≤ n ∧ i = .int .i64 k ∧ v = .int .i64 (Nu.val g 0 k)) (fun _ i => n - (intOf i).toNat)
  case atStart => exact ⟨0, Nat.zero_le _, rfl, rfl⟩
  case round =>
    obtain ⟨k, hk, rfl, rfl⟩ := hrel
    have hb := Nu.val_lt_9 g 0 k (by omega) (fun i hi => by simpa using hd i (by omega))
    by_cases hlt : k < n
    · obtain ⟨_, tb, to, rfl, hc⟩ := ht k hlt
      have hdk := hd k hlt
      have HS := Nu.hid (show Nu.val g 0 (k + 1) = 10 * Nu.val g 0 k + (g k - 48) by simp [Nu.val])
      have HT := Nu.hid ht
      have HD := Nu.hid hd
      clear ht hd
      obtain ⟨V, hV⟩ : ∃ V, V = Nu.val g 0 k := ⟨_, rfl⟩
      rw [← hV] at hb HS ⊢
      have HV := Nu.hid hV
      clear hV
      obtain ⟨C, hC⟩ : ∃ C, C = g k := ⟨_, rfl⟩
      rw [← hC] at hdk hc HS
      have HC := Nu.hid hC
      clear hC
      go_wp2
      go_round
      case rel =>
        refine ⟨k + 1, by omega, by go_num, ?_⟩
        rw [HS.out]
      case measure => simp [intOf]; omega
    · go_wp2
      go_ret
      have : k = n := by omega
      subst this
      exact ⟨rfl, rfl⟩

end Go.Proofs.YtfjgmbimapkabaaDoor
/-
  What the scanner's number does at a digit: it answers the run's token, or gives up with the fault 12 at the run's place.
-/
namespace Go.Proofs.YtfjgmbimapkabaaDoor
open Go.RowKit

theorem Nu.val_shift (g : Nat → Int) (q : Nat) : ∀ k, Nu.val (fun i => g (q + i)) 0 k = Nu.val g q k
  | 0 => rfl
  | k + 1 => by simp [Nu.val, Nu.val_shift g q k]

theorem HasText.cut {w : World} {tb to n : Nat} {g : Nat → Int} (h : HasText w (some ⟨tb, to, none⟩) n g) {q r : Nat} (hr : r ≤ n) (_hq : q ≤ r) : HasText w (some ⟨tb, to + q, none⟩) (r - q) (fun i => g (q + i)) := by
  intro i hi
  obtain ⟨hb, tb', to', e, hc⟩ := h (q + i) (by omega)
  simp only [Option.some.injEq, Addr.mk.injEq] at e
  obtain ⟨rfl, rfl, _⟩ := e
  exact ⟨hb, tb, to + q, rfl, by rw [← Nat.add_assoc] at hc; exact hc⟩

set_option maxHeartbeats 1000000 in
theorem number_any (b : Nat) (tb to n cap q : Nat) (g : Nat → Int) (w : World) (hs : Scn w b (some ⟨tb, to, none⟩) n cap q) (ht : HasText w (some ⟨tb, to, none⟩) n g) (ha : tb ≠ b) (hq : q < n) (hd : Nu.isDigit (g q) = true) (hn : n ≤ 33554432) (hcap : n ≤ cap) :
    Calls Tryd.prog 69 #[.pointer (some ⟨b, 0, none⟩)] w fun e w' =>
      ∃ r, Nu.IsSkip Nu.isDigit g n q r ∧ Scn w' b (some ⟨tb, to, none⟩) n cap r ∧ w.grownBy w' (some b) ∧
        ((¬ (9 < r - q ∨ (1 < r - q ∧ g q = 48)) ∧ e = .returned (.agg #[.int .i64 1, .int .i64 q, .int .i64 r, .int .i64 (Nu.val g q (r - q))])) ∨
         ((9 < r - q ∨ (1 < r - q ∧ g q = 48)) ∧ e = .panicked [{ v := .iface 112 (.agg #[.int .i64 q, .int .i64 12]), recovered := false }])) := by
  have c0 := hs.text
  have c1 := hs.place
  have hbs := hs.lt
  go_enter Tryd.func69, Tryd.ntmps69
  go_wp2_with fail
  refine (pass_digit b _ n cap q g _ (hs.alloc _) (ht.alloc _) (fun x hx => by cases hx; exact ha) (by omega) hn).mono ?_
  rintro e w1 ⟨rfl, r, hr, hs1, hg1⟩
  have ht1 := (ht.alloc _).grown hg1 (fun x hx => by cases hx; exact ha)
  have hqr : q < r := by
    rcases Nat.lt_or_ge q r with h | h
    · exact h
    · have e : q = r := Nat.le_antisymm hr.lo h
      subst e
      rw [hr.stop hq] at hd
      cases hd
  have hrn := hr.hi
  have cell0 := (ht1 q hq).2
  obtain ⟨_, _, e, cq⟩ := cell0
  cases e
  have d0 := hs1.text
  have d1 := hs1.place
  have z0 : w1.heap[w.heap.size]? = some (.cells #[.int .i64 0, .int .i64 0, .int .i64 0, .int .i64 0] 108 (0, 0)) := by
    rw [hg1.block w.heap.size (by simp) (by simp; omega)]; exact heap_alloc_new w _
  have HZ := Nu.hid z0
  have HD := Nu.hid hd
  have HT := Nu.hid ht
  have HT1 := Nu.hid ht1
  clear z0 hd ht ht1 c0 c1
  have i1 : (q : Int) ≤ (r : Int) := by omega
  have i2 : (r : Int) ≤ (cap : Int) := by omega
  have hg2 : w.grownBy w1 (some b) := grownBy_trans (World.grownBy_alloc w _ _) hg1
  have HG2 := Nu.hid hg2
  have HG1 := Nu.hid hg1
  have HR := Nu.hid hr
  have HS1 := Nu.hid hs1
  clear hg2 hg1 hr hs1
  by_cases hA : 9 < r - q
  · have j1 : (9 : Int) < ((r - q : Nat) : Int) := by omega
    go_wp2_with fail
    go_quiet (fail)
    go_wp2
    exact ⟨rfl, r, HR.out, HS1.out.drewN _, grownBy_drewN HG2.out _, .inr ⟨.inl hA, rfl⟩⟩
  · have j1 : ((r - q : Nat) : Int) ≤ 9 := by omega
    have j1' : decide ((9 : Int) < ((r - q : Nat) : Int)) = false := by simp; omega
    by_cases hB : 1 < r - q
    · have j2 : (1 : Int) < ((r - q : Nat) : Int) := by omega
      by_cases hC : g q = 48
      · have j3 : (g q == 48) = true := by simp [hC]
        have HC := Nu.hid hC
        clear hC
        go_wp2_with fail
        go_quiet (fail)
        go_wp2
        exact ⟨rfl, r, HR.out, HS1.out.drewN _, grownBy_drewN HG2.out _, .inr ⟨.inr ⟨hB, HC.out⟩, rfl⟩⟩
      · have j3 : (g q == 48) = false := by simp [hC]
        have HN := Nu.hid (show ¬ (9 < r - q ∨ (1 < r - q ∧ g q = 48)) from fun h => h.elim hA fun h => hC h.2)
        clear hC
        go_wp2_with fail
        go_quiet (fail)
        go_wp2_with fail
        have vd : ∀ i, i < r - q → 48 ≤ g (q + i) ∧ g (q + i) ≤ 57 := fun i hi => by
          have := HR.out.all (q + i) (by omega) (by omega)
          simpa [Nu.isDigit] using this
        have V := fun (k : Nat) => value_any (some ⟨tb, to + q, none⟩) (r - q) (cap - q) (fun i => g (q + i)) (w1.drewN k) ((HT1.out.drewN k).cut (by omega) (by omega)) (by omega) vd
        rw [Nu.val_shift] at V
        have VH := Nu.hid V
        clear V vd
        have f0 : ∀ i, w1.frozen? ⟨w.heap.size, i, none⟩ = false := fun i => by simp [World.frozen?, HZ.out]
        have f1 : ∀ i, i < 4 → w1.cell? ⟨w.heap.size, i, none⟩ = some (.int .i64 0) := fun i hi => by
          rcases (show i = 0 ∨ i = 1 ∨ i = 2 ∨ i = 3 by omega) with rfl | rfl | rfl | rfl <;> simp [World.cell?, HZ.out]
        have g0 := f1 0 (by omega)
        have g1 := f1 1 (by omega)
        have g2 := f1 2 (by omega)
        have g3 := f1 3 (by omega)
        go_region_with (go_at_call 72; refine (VH.out _).mono ?_; rintro e w' ⟨rfl, rfl⟩)
        all_goals go_wp2
        all_goals
          refine bodyPost_ret (v := .agg #[.int .i64 1, .int .i64 q, .int .i64 r, .int .i64 (Nu.val g q (r - q))]) (results_cell_row (p := 2) (ty := 108) Tryd.results69 _ _ w.heap.size 108 _ (0, 0) _ rfl (put4_heap (w := w1.drewN (nq + 1)) HZ.out _ _ _ _) Tryd.underlying108 rfl (by kernel_rfl)) rfl ?_
          exact ⟨r, HR.out, (HS1.out.drewN _).put4 (by omega) _ _ _ _, grownBy_put4 (grownBy_drewN HG2.out _) (Nat.le_refl _) _ _ _ _, .inl ⟨HN.out, rfl⟩⟩
    · have j2 : decide ((1 : Int) < ((r - q : Nat) : Int)) = false := by simp; omega
      have HN := Nu.hid (show ¬ (9 < r - q ∨ (1 < r - q ∧ g q = 48)) from fun h => h.elim hA fun h => hB h.1)
      go_wp2_with fail
      go_quiet (fail)
      go_wp2_with fail
      have vd : ∀ i, i < r - q → 48 ≤ g (q + i) ∧ g (q + i) ≤ 57 := fun i hi => by
        have := HR.out.all (q + i) (by omega) (by omega)
        simpa [Nu.isDigit] using this
      have V := fun (k : Nat) => value_any (some ⟨tb, to + q, none⟩) (r - q) (cap - q) (fun i => g (q + i)) (w1.drewN k) ((HT1.out.drewN k).cut (by omega) (by omega)) (by omega) vd
      rw [Nu.val_shift] at V
      have VH := Nu.hid V
      clear V vd
      have f0 : ∀ i, w1.frozen? ⟨w.heap.size, i, none⟩ = false := fun i => by simp [World.frozen?, HZ.out]
      have f1 : ∀ i, i < 4 → w1.cell? ⟨w.heap.size, i, none⟩ = some (.int .i64 0) := fun i hi => by
        rcases (show i = 0 ∨ i = 1 ∨ i = 2 ∨ i = 3 by omega) with rfl | rfl | rfl | rfl <;> simp [World.cell?, HZ.out]
      have g0 := f1 0 (by omega)
      have g1 := f1 1 (by omega)
      have g2 := f1 2 (by omega)
      have g3 := f1 3 (by omega)
      go_region_with (go_at_call 72; refine (VH.out _).mono ?_; rintro e w' ⟨rfl, rfl⟩)
      all_goals go_wp2
      all_goals
        refine bodyPost_ret (v := .agg #[.int .i64 1, .int .i64 q, .int .i64 r, .int .i64 (Nu.val g q (r - q))]) (results_cell_row (p := 2) (ty := 108) Tryd.results69 _ _ w.heap.size 108 _ (0, 0) _ rfl (put4_heap (w := w1.drewN (nq + 1)) HZ.out _ _ _ _) Tryd.underlying108 rfl (by kernel_rfl)) rfl ?_
        exact ⟨r, HR.out, (HS1.out.drewN _).put4 (by omega) _ _ _ _, grownBy_put4 (grownBy_drewN HG2.out _) (Nat.le_refl _) _ _ _ _, .inl ⟨HN.out, rfl⟩⟩

end Go.Proofs.YtfjgmbimapkabaaDoor
/-
  What the scanner's next does: it answers the next token and goes behind it, or gives up with the fault that the plain function tells.
-/
namespace Go.Proofs.YtfjgmbimapkabaaDoor
open Go.RowKit

def tokV (t : Nu.Tok) : Value := .agg #[.int .i64 t.kind, .int .i64 t.at', .int .i64 t.fin, .int .i64 t.num]
def faultV (x : Nat × Int) : Value := .iface 112 (.agg #[.int .i64 x.1, .int .i64 x.2])

def NextPost (b : Nat) (ao : Option Addr) (n cap p : Nat) (g : Nat → Int) (w : World) (e : Ending) (w' : World) : Prop :=
  w.grownBy w' (some b) ∧ ((∃ t p', Nu.next g n p = .ok (t, p') ∧ e = .returned (tokV t) ∧ Scn w' b ao n cap p') ∨ (∃ x, Nu.next g n p = .error x ∧ e = .panicked [{ v := faultV x, recovered := false }]))

theorem field_tok (x0 x1 x2 x3 : Value) (W : World) : (Instr.field 108 (.agg #[x0, x1, x2, x3]) 0).run Tryd.prog W = .ok x0 W := by kernel_rfl

theorem results_tok {fn : Func} {p : Tmp} (h : fn.results = #[.cell p 108]) (tmps : Array Value) (W : World) (B : Nat) (x0 x1 x2 x3 : Value)
    (hp : tmps.getD p undef = .pointer (some ⟨B, 0, none⟩)) (hg : W.heap[B]? = some (.cells #[x0, x1, x2, x3] 108 (0, 0))) :
    (results fn tmps).run Tryd.prog W = .ok (.agg #[x0, x1, x2, x3]) W :=
  results_cell_row (p := p) (ty := 108) h tmps W B 108 _ (0, 0) _ hp hg Tryd.underlying108 rfl (by kernel_rfl)

set_option maxHeartbeats 2000000 in
theorem next_any (b : Nat) (ao : Option Addr) (n cap p : Nat) (g : Nat → Int) (w : World) (hs : Scn w b ao n cap p) (ht : HasText w ao n g) (ha : Apart ao b) (hp : p ≤ n) (hn : n ≤ 33554432) (hcap : n ≤ cap) :
    Calls Tryd.prog 60 #[.pointer (some ⟨b, 0, none⟩)] w (NextPost b ao n cap p g w) := by
  have hbs := hs.lt
  go_enter Tryd.func60, Tryd.ntmps60
  go_wp2_with fail
  refine (pass_blank b ao n cap p g _ (hs.alloc _) (ht.alloc _) ha hp hn).mono ?_
  rintro e w1 ⟨rfl, q, hq, hs1, hg1⟩
  have ht1 := (ht.alloc _).grown hg1 ha
  have z0 : w1.heap[w.heap.size]? = some (.cells #[.int .i64 0, .int .i64 0, .int .i64 0, .int .i64 0] 108 (0, 0)) := by
    rw [hg1.block w.heap.size (by simp) (by simp; omega)]; exact heap_alloc_new w _
  have f0 : ∀ i, w1.frozen? ⟨w.heap.size, i, none⟩ = false := fun i => by simp [World.frozen?, z0]
  have g0 : w1.cell? ⟨w.heap.size, 0, none⟩ = some (.int .i64 0) := by simp [World.cell?, z0]
  have g1 : w1.cell? ⟨w.heap.size, 1, none⟩ = some (.int .i64 0) := by simp [World.cell?, z0]
  have g2 : w1.cell? ⟨w.heap.size, 2, none⟩ = some (.int .i64 0) := by simp [World.cell?, z0]
  have g3 : w1.cell? ⟨w.heap.size, 3, none⟩ = some (.int .i64 0) := by simp [World.cell?, z0]
  have d0 := hs1.text
  have d1 := hs1.place
  have fz := hs1.free 1
  have hqn := hq.hi
  have hg2 : w.grownBy w1 (some b) := grownBy_trans (World.grownBy_alloc w _ _) hg1
  have HG2 := Nu.hid hg2
  have HS1 := Nu.hid hs1
  have HT1 := Nu.hid ht1
  have HT := Nu.hid ht
  have HZ := Nu.hid z0
  have HQ := Nu.hid hq
  clear hg2 hg1 hs1 ht1 ht z0 hq hs
  by_cases hA : q = n
  · subst hA
    go_wp2_with fail
    refine bodyPost_ret (v := tokV ⟨3, q, q, 0⟩) (results_tok (p := 2) Tryd.results60 _ _ w.heap.size _ _ _ _ rfl (put4_heap (w := w1) HZ.out _ _ _ _)) rfl ?_
    exact ⟨grownBy_put4 HG2.out (Nat.le_refl _) _ _ _ _, .inl ⟨_, _, Nu.next_end HQ.out, rfl, HS1.out.put4 (by omega) _ _ _ _⟩⟩
  · have hlt : q < n := by omega
    have j0 : ((q : Int) == (n : Int)) = false := by simp; omega
    have j1 : (q : Int) < (n : Int) := by omega
    obtain ⟨⟨b0, b1⟩, tb, to, rfl, cq⟩ := HT1.out q hlt
    cases hd : Nu.isDigit (g q)
    · by_cases h10 : g q = 10
      · have j2 : (g q == 10) = true := by simp [h10]
        have H10 := Nu.hid h10
        clear h10
        go_wp2_with (go_at_call 68; refine (digit_any _ _).mono ?_; rintro e w' ⟨rfl, rfl⟩)
        have z3 := (heap_setCell_other w' ⟨b, 1, none⟩ w.heap.size (.int .i64 ((q : Int) + 1)) (by simp; omega)).trans HZ.out
        refine bodyPost_ret (v := tokV ⟨2, q, (q : Int) + 1, 0⟩) (results_tok (p := 2) Tryd.results60 _ _ w.heap.size _ _ _ _ rfl (put4_heap z3 _ _ _ _)) rfl ?_
        exact ⟨grownBy_put4 (grownBy_setCell HG2.out 1 _) (Nat.le_refl _) _ _ _ _, .inl ⟨_, _, Nu.next_line HQ.out hlt H10.out, rfl, (HS1.out.set (q + 1)).put4 (by omega) _ _ _ _⟩⟩
      · have j2 : (g q == 10) = false := by simp [h10]
        go_wp2_with (go_at_call 68; refine (digit_any _ _).mono ?_; rintro e w' ⟨rfl, rfl⟩)
        exact ⟨rfl, HG2.out, .inr ⟨(q, 11), Nu.next_byte HQ.out hlt hd h10, rfl⟩⟩
    · go_wp2_with (first | (go_at_call 68; refine (digit_any _ _).mono ?_; rintro e w' ⟨rfl, rfl⟩) | (go_at_call 69; refine (number_any b tb to n cap q g _ HS1.out HT1.out (fun h => ha _ rfl h) hlt hd hn hcap).mono ?_; refine Hid.out ?_))
      refine Nu.hid ?_
      rintro e w2 ⟨r, hr, hs2, hg3, hx⟩
      have z2 : w2.heap[w.heap.size]? = some (.cells #[.int .i64 0, .int .i64 0, .int .i64 0, .int .i64 0] 108 (0, 0)) := by
        rw [hg3.block w.heap.size (lt_of_block HZ.out) (by simp; omega)]; exact HZ.out
      rcases hx with ⟨hb, rfl⟩ | ⟨hb, rfl⟩
      · have HR := Nu.hid hr
        have HS2 := Nu.hid hs2
        have HG3 := Nu.hid (grownBy_trans HG2.out hg3)
        have HB := Nu.hid hb
        have HZ2 := Nu.hid z2
        clear g0 g1 g2 g3 f0 d0 d1 fz cq
        have f0 : ∀ i, w2.frozen? ⟨w.heap.size, i, none⟩ = false := fun i => by simp [World.frozen?, z2]
        have g0 : w2.cell? ⟨w.heap.size, 0, none⟩ = some (.int .i64 0) := by simp [World.cell?, z2]
        have g1 : w2.cell? ⟨w.heap.size, 1, none⟩ = some (.int .i64 0) := by simp [World.cell?, z2]
        have g2 : w2.cell? ⟨w.heap.size, 2, none⟩ = some (.int .i64 0) := by simp [World.cell?, z2]
        have g3 : w2.cell? ⟨w.heap.size, 3, none⟩ = some (.int .i64 0) := by simp [World.cell?, z2]
        clear hr hs2 hg3 hb z2
        go_wp2
        refine bodyPost_ret (v := tokV ⟨1, q, r, Nu.val g q (r - q)⟩) (results_tok (p := 2) Tryd.results60 _ _ w.heap.size _ _ _ _ rfl (put4_heap HZ2.out _ _ _ _)) rfl ?_
        exact ⟨grownBy_put4 HG3.out (Nat.le_refl _) _ _ _ _, .inl ⟨_, _, Nu.next_num HQ.out hlt hd HR.out HB.out, rfl, HS2.out.put4 (by omega) _ _ _ _⟩⟩
      · exact ⟨rfl, grownBy_trans HG2.out hg3, .inr ⟨(q, 12), Nu.next_bad HQ.out hlt hd hr hb, rfl⟩⟩

end Go.Proofs.YtfjgmbimapkabaaDoor
