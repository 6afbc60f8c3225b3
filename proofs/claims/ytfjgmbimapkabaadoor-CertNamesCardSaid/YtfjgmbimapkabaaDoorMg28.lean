import Derived.Test.YtfjgmbimapkabaaDoorMg27
/-
  The program's reader: the whole proof; what the function that read defers does.
-/
namespace Go.Proofs.YtfjgmbimapkabaaDoor
open Go.RowKit

/-- A text's certificate, and the place behind its last line. -/
def Ce.prf (B : Nat → Int) (n : Nat) : Except Nat (Ce.Cert × Nat) :=
  if B 0 = 112 then (match Ce.rds B n 1 with | .error e => .error e | .ok (ls, j) => .ok (⟨true, ls, []⟩, j))
  else if B 0 = 110 then (match Ce.prt B n 1 with | .error e => .error e | .ok (es, j) => .ok (⟨false, [], es⟩, j)) else .error 0
/-- What a certificate is, for the program. -/
def PrfV (c : Ce.Cert) (w : World) (B : Nat) (v : Value) : Prop :=
  (c.pl = true ∧ c.es = [] ∧ ∃ va vs, v = .iface 71 va ∧ RowsZ w B va vs c.ar) ∨ (c.pl = false ∧ c.ar = [] ∧ ∃ ve, v = .iface 72 ve ∧ OwnE w B ve c.es)

set_option maxHeartbeats 2000000 in
theorem proof17_any {b : Nat} {ao : Option Addr} {n cap : Nat} {g : Nat → Int} {w : World} (h : Rtx w b ao n cap 0 g) :
    Calls Tryd.prog 29 #[.pointer (some ⟨b, 0, none⟩)] w (RdP (Ce.prf (Ce.atF n g) n) (fun c w' v => PrfV c w' w.heap.size v) b ao n cap w) := by
  obtain ⟨R, hR⟩ : ∃ R, Ce.prf (Ce.atF n g) n = R := ⟨_, rfl⟩
  rw [hR]
  unfold Ce.prf at hR
  have H := Nu.hid h
  clear h
  by_cases h1 : Ce.atF n g 0 = 112
  · rw [if_pos h1] at hR
    go_enter Tryd.func29, Tryd.ntmps29
    go_wp2_with (go_at_call 36; refine (H.out.passYes (by decide) h1).mono ?_; rintro e w1 ⟨rfl, hg1, h1'⟩; have HG1 := Nu.hid hg1; have H1 := Nu.hid h1'; clear hg1 h1'; refine Hid.out ?_)
    refine Nu.hid ?_
    cases hm : Ce.rds (Ce.atF n g) n 1 with
    | error q =>
      rw [hm] at hR
      go_wp2_with (go_at_call 37; refine (rounds17_any H1.out).mono ?_; rintro e w2 ⟨hg2, hx⟩; obtain ⟨_, hx1, he⟩ := hx.resolve_left (by rintro ⟨_, _, _, hx, -⟩; rw [hm] at hx; cases hx); rw [hm] at hx1; cases hx1; rw [faultAt] at he; subst he)
      exact ⟨rfl, grownBy_trans HG1.out hg2, .inr ⟨q, hR.symm, rfl⟩⟩
    | ok q =>
      obtain ⟨ls, j⟩ := q
      rw [hm] at hR
      go_wp2_with (go_at_call 37; refine (rounds17_any H1.out).mono ?_; rintro e w2 ⟨hg2, hx⟩; obtain ⟨_, _, v, hx1, rfl, ⟨vs, hrows⟩, h2, h3⟩ := hx.resolve_right (by rintro ⟨_, hx, -⟩; rw [hm] at hx; cases hx); rw [hm] at hx1; cases hx1)
      go_ret
      exact ⟨grownBy_trans HG1.out hg2, .inl ⟨_, j, _, hR.symm, rfl, .inl ⟨rfl, rfl, _, vs, rfl, hrows.lower HG1.out.size⟩, h2, h3⟩⟩
  · rw [if_neg h1] at hR
    go_enter Tryd.func29, Tryd.ntmps29
    go_wp2_with (go_at_call 36; refine (H.out.passNo h1).mono ?_; rintro e w1 ⟨rfl, hg1, h1'⟩; have HG1 := Nu.hid hg1; have H1 := Nu.hid h1'; clear hg1 h1'; refine Hid.out ?_)
    refine Nu.hid ?_
    by_cases h2 : Ce.atF n g 0 = 110
    · rw [if_pos h2] at hR
      go_wp2_with (go_at_call 38; refine (H1.out.yes (by decide) h2).mono ?_; rintro e w2 ⟨rfl, hg2, h2'⟩; have HG2 := Nu.hid (grownBy_trans HG1.out hg2); have H2 := Nu.hid h2'; clear hg2 h2'; refine Hid.out ?_)
      refine Nu.hid ?_
      cases hm : Ce.prt (Ce.atF n g) n 1 with
      | error q =>
        rw [hm] at hR
        go_wp2_with (go_at_call 39; refine (part17_any H2.out).mono ?_; rintro e w3 ⟨hg3, hx⟩; obtain ⟨_, hx1, he⟩ := hx.resolve_left (by rintro ⟨_, _, _, hx, -⟩; rw [hm] at hx; cases hx); rw [hm] at hx1; cases hx1; rw [faultAt] at he; subst he)
        exact ⟨rfl, grownBy_trans HG2.out hg3, .inr ⟨q, hR.symm, rfl⟩⟩
      | ok q =>
        obtain ⟨es, j⟩ := q
        rw [hm] at hR
        go_wp2_with (go_at_call 39; refine (part17_any H2.out).mono ?_; rintro e w3 ⟨hg3, hx⟩; obtain ⟨_, _, v, hx1, rfl, hown, h3, h4⟩ := hx.resolve_right (by rintro ⟨_, hx, -⟩; rw [hm] at hx; cases hx); rw [hm] at hx1; cases hx1)
        go_ret
        exact ⟨grownBy_trans HG2.out hg3, .inl ⟨_, j, _, hR.symm, rfl, .inr ⟨rfl, rfl, _, rfl, hown.lower HG2.out.size⟩, h3, h4⟩⟩
    · rw [if_neg h2] at hR
      go_wp2_with (go_at_call 38; refine (H1.out.no h2).mono ?_; rintro e w2 ⟨he, hg2⟩; rw [faultAt] at he; subst he)
      exact ⟨rfl, grownBy_trans HG1.out hg2, .inr ⟨0, hR.symm, rfl⟩⟩
end Go.Proofs.YtfjgmbimapkabaaDoor
/-
  The program's reader: what the function that read defers does; read.
-/
namespace Go.Proofs.YtfjgmbimapkabaaDoor
open Go.RowKit

set_option maxHeartbeats 1000000 in
theorem catch17_idle (p q r : Addr) (w : World) :
    CallsD Tryd.prog 28 #[.pointer (some p), .pointer (some q), .pointer (some r)] .returning w fun e u' w' => e = .returned (.tuple #[]) ∧ u' = .returning ∧ w' = w := by
  refine callsD_of_wpS Tryd.func28 rfl fun c₀ cs hu => ?_
  apply wpS_seq
  apply wpS_region
  simp [wpOpsS, go_sem, recoverD, hu, Tryd.ntmps28, Exit.thenS]
  refine wpS_of_wp ?_
  go_wp2
  cases c₀
  simp_all [bodyPostS, results, Tryd.results28]

/-- The three results of read lie in the blocks A, A + 1, A + 2. -/
structure Rs17 (w : World) (A : Nat) (v : Value) (x : Int) (t : Bool) : Prop where
  prf : w.heap[A]? = some (.cells #[v] 47 (0, 0))
  place : w.heap[A + 1]? = some (.cells #[.int .i64 x] 3 (0, 0))
  is : w.heap[A + 2]? = some (.cells #[.bool t] 4 (0, 0))
theorem Rs17.put3 {w : World} {A : Nat} {v v' : Value} {x x' : Int} {t t' : Bool} (h : Rs17 w A v x t) : Rs17 (((w.setCell ⟨A, 0, none⟩ v').setCell ⟨A + 1, 0, none⟩ (.int .i64 x')).setCell ⟨A + 2, 0, none⟩ (.bool t')) A v' x' t' := by
  refine ⟨?_, ?_, ?_⟩
  · rw [heap_setCell_other _ ⟨A + 2, 0, none⟩ A _ (by simp), heap_setCell_other _ ⟨A + 1, 0, none⟩ A _ (by simp)]
    exact one_setCell h.prf
  · rw [heap_setCell_other _ ⟨A + 2, 0, none⟩ (A + 1) _ (by simp)]
    refine one_setCell (v := .int .i64 x) ?_
    rw [heap_setCell_other _ ⟨A, 0, none⟩ (A + 1) _ (by simp)]
    exact h.place
  · refine one_setCell (v := .bool t) ?_
    rw [heap_setCell_other _ ⟨A + 1, 0, none⟩ (A + 2) _ (by simp), heap_setCell_other _ ⟨A, 0, none⟩ (A + 2) _ (by simp)]
    exact h.is
theorem Rs17.below {w w' : World} {A B : Nat} {v : Value} {x : Int} {t : Bool} (h : Rs17 w A v x t) (hb : w.grownBy w' (some B)) (hB : A + 2 < B) : Rs17 w' A v x t :=
  ⟨(hb.block A (lt_of_block h.prf) (by simp; omega)).trans h.prf, (hb.block (A + 1) (lt_of_block h.place) (by simp; omega)).trans h.place, (hb.block (A + 2) (lt_of_block h.is) (by simp; omega)).trans h.is⟩
theorem below_put3 {w W : World} {A : Nat} (h : Below w.heap.size w W) (hA : w.heap.size ≤ A) (a b c : Value) : Below w.heap.size w (((W.setCell ⟨A, 0, none⟩ a).setCell ⟨A + 1, 0, none⟩ b).setCell ⟨A + 2, 0, none⟩ c) :=
  ((h.setCell (p := ⟨A, 0, none⟩) hA a).setCell (p := ⟨A + 1, 0, none⟩) (by dsimp only; omega) b).setCell (p := ⟨A + 2, 0, none⟩) (by dsimp only; omega) c

set_option maxHeartbeats 1000000 in
theorem catch17_fault (A q : Nat) (v : Value) (x : Int) (t : Bool) (w0 w : World) (hr : Rs17 w A v x t) (h0 : Below w0.heap.size w0 w) (hA : w0.heap.size ≤ A) :
    CallsD Tryd.prog 28 #[.pointer (some ⟨A, 0, none⟩), .pointer (some ⟨A + 1, 0, none⟩), .pointer (some ⟨A + 2, 0, none⟩)] (.panicking [{ v := .iface 67 (.int .i64 (q : Int)), recovered := false }]) w fun e u' w' =>
      e = .returned (.tuple #[]) ∧ u' = .panicking [{ v := .iface 67 (.int .i64 (q : Int)), recovered := true }] ∧ Rs17 w' A .nilIface q false ∧ Below w0.heap.size w0 w' := by
  have c0 := cell_of_one hr.prf
  have c1 := cell_of_one hr.place
  have c2 := cell_of_one hr.is
  have f0 := free_of_one hr.prf
  have f1 := free_of_one hr.place
  have f2 := free_of_one hr.is
  have hta : ∀ (v : Value) (w : World), (Instr.typeAssert (.iface 67 v) 20 67 true).run Tryd.prog w = .ok (.tuple #[v, .bool true]) w := fun _ _ => by kernel_rfl
  refine callsD_of_wpS Tryd.func28 rfl fun c₀ cs hu => ?_
  apply wpS_seq
  apply wpS_region
  simp [wpOpsS, go_sem, recoverD, hu, Tryd.ntmps28, Exit.thenS, Array.replicate]
  refine wpS_of_wp ?_
  have HR := Nu.hid hr
  have H0 := Nu.hid h0
  clear hr h0
  go_wp2
  exact ⟨rfl, _, rfl, .tuple #[], by simp [results, Tryd.results28], rfl, rfl, HR.out.put3, below_put3 H0.out hA _ _ _⟩
end Go.Proofs.YtfjgmbimapkabaaDoor
/-
  The program's reader: read.
-/
namespace Go.Proofs.YtfjgmbimapkabaaDoor
open Go.RowKit

/-- What read answers. -/
def ReadP (R : Except Nat (Ce.Cert × Nat)) (n : Nat) (w : World) (e : Ending) (w' : World) : Prop :=
  Below w.heap.size w w' ∧ ((∃ c j v, R = .ok (c, j) ∧ ¬ j < n ∧ e = .returned (.tuple #[v, .int .i64 0, .bool true]) ∧ PrfV c w' w.heap.size v) ∨ ∃ q : Nat, (R = .error q ∨ ∃ c, R = .ok (c, q) ∧ q < n) ∧ e = .returned (.tuple #[.nilIface, .int .i64 (q : Int), .bool false]))

theorem results_read17 (tmps : Array Value) (W : World) (A : Nat) (v : Value) (x : Int) (t : Bool) (h2 : tmps.getD 2 undef = .pointer (some ⟨A, 0, none⟩)) (h3 : tmps.getD 3 undef = .pointer (some ⟨A + 1, 0, none⟩)) (h4 : tmps.getD 4 undef = .pointer (some ⟨A + 2, 0, none⟩)) (hr : Rs17 W A v x t) :
    (results Tryd.f16 tmps).run Tryd.prog W = .ok (.tuple #[v, .int .i64 x, .bool t]) W := by
  have c0 := cell_of_one hr.prf
  have c1 := cell_of_one hr.place
  have c2 := cell_of_one hr.is
  have k2 : tmps[2]?.getD undef = .pointer (some ⟨A, 0, none⟩) := by simpa using h2
  have k3 : tmps[3]?.getD undef = .pointer (some ⟨A + 1, 0, none⟩) := by simpa using h3
  have k4 : tmps[4]?.getD undef = .pointer (some ⟨A + 2, 0, none⟩) := by simpa using h4
  simp [results, Tryd.results16, go_sem, k2, k3, k4, c0, c1, c2]

theorem PrfV.same {c : Ce.Cert} {w w' : World} {B : Nat} {v : Value} (h : PrfV c w B v) (hb : ∀ g, B ≤ g → g < w.heap.size → w'.heap[g]? = w.heap[g]?) : PrfV c w' B v := by
  rcases h with ⟨h1, h2, va, vs, h3, h4⟩ | ⟨h1, h2, ve, h3, h4⟩
  · exact .inl ⟨h1, h2, va, vs, h3, h4.same hb⟩
  · exact .inr ⟨h1, h2, ve, h3, row_same h4 fun g _ h5 h6 => hb g h5 h6⟩
theorem PrfV.lower {c : Ce.Cert} {w : World} {B A : Nat} {v : Value} (h : PrfV c w B v) (hA : A ≤ B) : PrfV c w A v := by
  rcases h with ⟨h1, h2, va, vs, h3, h4⟩ | ⟨h1, h2, ve, h3, h4⟩
  · exact .inl ⟨h1, h2, va, vs, h3, h4.lower hA⟩
  · exact .inr ⟨h1, h2, ve, h3, h4.lower hA⟩

/-- Memory when read's boxes have been made. -/
theorem rs17_new (w : World) (ao : Option Addr) (n cap : Nat) :
    Rs17 ((((w.alloc (.cells #[.nilIface] 47)).alloc (.cells #[.int .i64 0] 3)).alloc (.cells #[.bool false] 4)).alloc (.cells #[.slice ao n cap, .int .i64 0] 69)) w.heap.size .nilIface 0 false := by
  have e1 := heap_alloc_new w (.cells #[.nilIface] 47)
  have e2 := heap_alloc_new (w.alloc (.cells #[.nilIface] 47)) (.cells #[.int .i64 0] 3)
  have e3 := heap_alloc_new ((w.alloc (.cells #[.nilIface] 47)).alloc (.cells #[.int .i64 0] 3)) (.cells #[.bool false] 4)
  rw [World.size_alloc] at e2
  rw [World.size_alloc, World.size_alloc] at e3
  refine ⟨?_, ?_, ?_⟩
  · rw [Below.heap_alloc _ _ _ (by simp; omega), Below.heap_alloc _ _ _ (by simp; omega), Below.heap_alloc _ _ _ (by simp)]
    exact e1
  · rw [Below.heap_alloc _ _ _ (by simp), Below.heap_alloc _ _ _ (by simp)]
    exact e2
  · rw [Below.heap_alloc _ _ _ (by simp)]
    exact e3

set_option maxHeartbeats 4000000 in
set_option maxRecDepth 100000 in
theorem read17_any {ao : Option Addr} {n cap : Nat} {g : Nat → Int} {w : World} (ht : HasText w ao n g) (ha : ∀ x, ao = some x → x.block < w.heap.size ∧ x.spot = none) (hn : n ≤ 33554432) (hcap : n ≤ cap) :
    Calls Tryd.prog 16 #[.slice ao n cap] w (ReadP (Ce.prf (Ce.atF n g) n) n w) := by
  have hmf : ∀ (fn : Fn) (first cap : Array Value) (w : World), (Instr.makeFunc fn first cap).run Tryd.prog w = .ok (.func fn first cap) w := fun _ _ _ _ => rfl
  have hb0 : Below w.heap.size w ((((w.alloc (.cells #[.nilIface] 47)).alloc (.cells #[.int .i64 0] 3)).alloc (.cells #[.bool false] 4)).alloc (.cells #[.slice ao n cap, .int .i64 0] 69)) :=
    ((((Below.refl _ _).alloc (Nat.le_refl _) _).alloc (by simp) _).alloc (by simp; omega) _).alloc (by simp; omega) _
  have hrd := heap_alloc_new (((w.alloc (.cells #[.nilIface] 47)).alloc (.cells #[.int .i64 0] 3)).alloc (.cells #[.bool false] 4)) (.cells #[.slice ao n cap, .int .i64 0] 69)
  rw [World.size_alloc, World.size_alloc, World.size_alloc] at hrd
  have HX := Nu.hid (show Rtx _ (w.heap.size + 1 + 1 + 1) ao n cap 0 g from ⟨hrd, ht.later hb0, fun x hx => ⟨by have := (ha x hx).1; omega, (ha x hx).2⟩, hn, hcap, Nat.zero_le _⟩)
  have HB0 := Nu.hid hb0
  have HR0 := Nu.hid (rs17_new w ao n cap)
  obtain ⟨R, hR⟩ : ∃ R, Ce.prf (Ce.atF n g) n = R := ⟨_, rfl⟩
  rw [hR]
  have HP := Nu.hid (proof17_any HX.out)
  rw [hR] at HP
  clear ht hb0 hrd hR
  go_enter_defers Tryd.func16, Tryd.ntmps16
  go_wp2_with fail
  refine HP.out.mono ?_
  rintro e w1 ⟨hg1, ⟨c, j, v, hR, rfl, hv, h1, hj⟩ | ⟨q, hR, he⟩⟩
  · obtain ⟨tv, xv, rfl⟩ : ∃ tv xv, v = .iface tv xv := by
      rcases hv with ⟨-, -, va, -, rfl, -⟩ | ⟨-, -, ve, rfl, -⟩
      · exact ⟨_, _, rfl⟩
      · exact ⟨_, _, rfl⟩
    have hr1 := HR0.out.below hg1 (by omega)
    have hb1 : Below w.heap.size w w1 := HB0.out.grown hg1 (by simp; omega) (fun b hb => by cases hb; omega)
    have c0 := cell_of_one hr1.prf
    have f0 := free_of_one hr1.prf
    have HV := Nu.hid hv
    have HRR := Nu.hid hR
    clear hR
    have HR1 := Nu.hid hr1
    have HB1 := Nu.hid hb1
    have c1 : (w1.setCell ⟨w.heap.size, 0, none⟩ (.iface tv xv)).cell? ⟨w.heap.size + 1 + 1 + 1, 1, none⟩ = some (.int .i64 (j : Int)) := by
      rw [World.cell?_of_block (w := w1) (heap_setCell_other _ ⟨w.heap.size, 0, none⟩ _ _ (by dsimp only; omega))]
      exact h1.place
    by_cases hjn : j < n
    · have hji : (j : Int) < (n : Int) := by omega
      clear hg1 hv hr1 hb1 h1
      go_wp2_with fail
      refine leaves_cons (f := 28) (args := #[.pointer (some ⟨w.heap.size, 0, none⟩), .pointer (some ⟨w.heap.size + 1, 0, none⟩), .pointer (some ⟨w.heap.size + 1 + 1, 0, none⟩)]) (by simp) (by simp [go_sem]) ?_
      have hr2 : Rs17 (w1.setCell ⟨w.heap.size, 0, none⟩ (.iface tv xv)) w.heap.size (.iface tv xv) 0 false := by
        refine ⟨one_setCell HR1.out.prf, ?_, ?_⟩
        · rw [heap_setCell_other _ ⟨w.heap.size, 0, none⟩ _ _ (by simp)]; exact HR1.out.place
        · rw [heap_setCell_other _ ⟨w.heap.size, 0, none⟩ _ _ (by simp)]; exact HR1.out.is
      refine (catch17_fault w.heap.size j (.iface tv xv) 0 false w _ hr2 (HB1.out.setCell (p := ⟨w.heap.size, 0, none⟩) (Nat.le_refl _) (.iface tv xv)) (Nat.le_refl _)).mono ?_
      rintro e u' w3 ⟨rfl, rfl, hres3, hb3⟩
      exact ⟨_, results_read17 _ _ w.heap.size _ _ _ rfl rfl rfl hres3, hb3, .inr ⟨j, .inr ⟨c, HRR.out, hjn⟩, rfl⟩⟩
    · have hji : ¬ ((j : Int) < (n : Int)) := by omega
      have c0' : (w1.setCell ⟨w.heap.size, 0, none⟩ (.iface tv xv)).cell? ⟨w.heap.size, 0, none⟩ = some (.iface tv xv) := World.cell?_setCell_same _ _ _ c0
      have c2 := cell_of_one hr1.place
      have c3 := cell_of_one hr1.is
      have f1 := free_of_one hr1.place
      have f2 := free_of_one hr1.is
      clear hg1 hv hr1 hb1 h1
      go_wp2_with fail
      refine leaves_cons (f := 28) (args := #[.pointer (some ⟨w.heap.size, 0, none⟩), .pointer (some ⟨w.heap.size + 1, 0, none⟩), .pointer (some ⟨w.heap.size + 1 + 1, 0, none⟩)]) (by simp) (by simp [go_sem]) ?_
      refine (catch17_idle _ _ _ _).mono ?_
      rintro e u' w3 ⟨rfl, rfl, rfl⟩
      have hr2 : Rs17 (w1.setCell ⟨w.heap.size, 0, none⟩ (.iface tv xv)) w.heap.size (.iface tv xv) 0 false := by
        refine ⟨one_setCell HR1.out.prf, ?_, ?_⟩
        · rw [heap_setCell_other _ ⟨w.heap.size, 0, none⟩ _ _ (by simp)]; exact HR1.out.place
        · rw [heap_setCell_other _ ⟨w.heap.size, 0, none⟩ _ _ (by simp)]; exact HR1.out.is
      have hB : ((((w.alloc (.cells #[.nilIface] 47)).alloc (.cells #[.int .i64 0] 3)).alloc (.cells #[.bool false] 4)).alloc (.cells #[.slice ao n cap, .int .i64 0] 69)).heap.size = w.heap.size + 1 + 1 + 1 + 1 := by simp
      have hv2 := HV.out
      rw [hB] at hv2
      refine ⟨_, results_read17 _ _ w.heap.size (.iface tv xv) 0 true rfl rfl rfl hr2.put3, below_put3 (HB1.out.setCell (p := ⟨w.heap.size, 0, none⟩) (Nat.le_refl _) _) (Nat.le_refl _) _ _ _, .inl ⟨c, j, _, HRR.out, hjn, rfl, ?_⟩⟩
      refine (hv2.same fun k h1 _ => ?_).lower (by omega)
      rw [heap_setCell_other _ ⟨w.heap.size + 2, 0, none⟩ k _ (by dsimp only; omega), heap_setCell_other _ ⟨w.heap.size + 1, 0, none⟩ k _ (by dsimp only; omega), heap_setCell_other _ ⟨w.heap.size, 0, none⟩ k _ (by dsimp only; omega), heap_setCell_other _ ⟨w.heap.size, 0, none⟩ k _ (by dsimp only; omega)]
  · rw [faultAt] at he
    subst he
    have hr1 := HR0.out.below hg1 (by omega)
    have hb1 : Below w.heap.size w w1 := HB0.out.grown hg1 (by simp; omega) (fun b hb => by cases hb; omega)
    refine leaves_cons (f := 28) (args := #[.pointer (some ⟨w.heap.size, 0, none⟩), .pointer (some ⟨w.heap.size + 1, 0, none⟩), .pointer (some ⟨w.heap.size + 1 + 1, 0, none⟩)]) (by simp) (by simp [go_sem]) ?_
    refine (catch17_fault w.heap.size q _ _ _ w w1 hr1 hb1 (Nat.le_refl _)).mono ?_
    rintro e u' w3 ⟨rfl, rfl, hres3, hb3⟩
    exact ⟨_, results_read17 _ _ w.heap.size _ _ _ rfl rfl rfl hres3, hb3, .inr ⟨q, .inl hR, rfl⟩⟩
end Go.Proofs.YtfjgmbimapkabaaDoor
