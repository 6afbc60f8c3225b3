import Derived.Test.YtodlejemkihjnaaDoorMg25
import Derived.Test.YtodlejemkihjnaaDoorMg23
/-
  The program's reader: read.
-/
namespace Go.Proofs.YtodlejemkihjnaaDoor
open Go.RowKit

/-- What read answers. -/
def ReadP (R : Except Nat (Ce.Cert × Nat)) (n : Nat) (w : World) (e : Ending) (w' : World) : Prop :=
  Below w.heap.size w w' ∧ ((∃ c j v, R = .ok (c, j) ∧ ¬ j < n ∧ e = .returned (.tuple #[v, .int .i64 0, .bool true]) ∧ PrfV c w' w.heap.size v) ∨ ∃ q : Nat, (R = .error q ∨ ∃ c, R = .ok (c, q) ∧ q < n) ∧ e = .returned (.tuple #[.nilIface, .int .i64 (q : Int), .bool false]))

theorem results_read17 (tmps : Array Value) (W : World) (A : Nat) (v : Value) (x : Int) (t : Bool) (h2 : tmps.getD 2 undef = .pointer (some ⟨A, 0, none⟩)) (h3 : tmps.getD 3 undef = .pointer (some ⟨A + 1, 0, none⟩)) (h4 : tmps.getD 4 undef = .pointer (some ⟨A + 2, 0, none⟩)) (hr : Rs17 W A v x t) :
    (results Tryd.f18 tmps).run Tryd.prog W = .ok (.tuple #[v, .int .i64 x, .bool t]) W := by
  have c0 := cell_of_one hr.prf
  have c1 := cell_of_one hr.place
  have c2 := cell_of_one hr.is
  have k2 : tmps[2]?.getD undef = .pointer (some ⟨A, 0, none⟩) := by simpa using h2
  have k3 : tmps[3]?.getD undef = .pointer (some ⟨A + 1, 0, none⟩) := by simpa using h3
  have k4 : tmps[4]?.getD undef = .pointer (some ⟨A + 2, 0, none⟩) := by simpa using h4
  simp [results, Tryd.results18, go_sem, k2, k3, k4, c0, c1, c2]

theorem PrfV.same {c : Ce.Cert} {w w' : World} {B : Nat} {v : Value} (h : PrfV c w B v) (hb : ∀ g, B ≤ g → g < w.heap.size → w'.heap[g]? = w.heap[g]?) : PrfV c w' B v := by
  rcases h with ⟨h1, h2, va, vs, h3, h4⟩ | ⟨h1, h2, ve, h3, h4⟩
  · exact .inl ⟨h1, h2, va, vs, h3, h4.same hb⟩
  · exact .inr ⟨h1, h2, ve, h3, row_same h4 fun g _ h5 h6 => hb g h5 h6⟩
theorem PrfV.lower {c : Ce.Cert} {w : World} {B A : Nat} {v : Value} (h : PrfV c w B v) (hA : A ≤ B) : PrfV c w A v := by
  rcases h with ⟨h1, h2, va, vs, h3, h4⟩ | ⟨h1, h2, ve, h3, h4⟩
  · exact .inl ⟨h1, h2, va, vs, h3, h4.lower hA⟩
  · exact .inr ⟨h1, h2, ve, h3, h4.lower hA⟩

/-- Memory when read's boxes have been made. -/
theorem rs17_new (w : World) (ao : Option Addr) (n cap : Nat) :
    Rs17 ((((w.alloc (.cells #[.nilIface] 45)).alloc (.cells #[.int .i64 0] 3)).alloc (.cells #[.bool false] 4)).alloc (.cells #[.slice ao n cap, .int .i64 0] 74)) w.heap.size .nilIface 0 false := by
  have e1 := heap_alloc_new w (.cells #[.nilIface] 45)
  have e2 := heap_alloc_new (w.alloc (.cells #[.nilIface] 45)) (.cells #[.int .i64 0] 3)
  have e3 := heap_alloc_new ((w.alloc (.cells #[.nilIface] 45)).alloc (.cells #[.int .i64 0] 3)) (.cells #[.bool false] 4)
  rw [World.size_alloc] at e2
  rw [World.size_alloc, World.size_alloc] at e3
  refine ⟨?_, ?_, ?_⟩
  · rw [Below.heap_alloc _ _ _ (by simp; omega), Below.heap_alloc _ _ _ (by simp; omega), Below.heap_alloc _ _ _ (by simp)]
    exact e1
  · rw [Below.heap_alloc _ _ _ (by simp), Below.heap_alloc _ _ _ (by simp)]
    exact e2
  · rw [Below.heap_alloc _ _ _ (by simp)]
    exact e3

set_option maxHeartbeats 4000000 in
set_option maxRecDepth 100000 in
theorem read17_any {ao : Option Addr} {n cap : Nat} {g : Nat → Int} {w : World} (ht : HasText w ao n g) (ha : ∀ x, ao = some x → x.block < w.heap.size ∧ x.spot = none) (hn : n ≤ 33554432) (hcap : n ≤ cap) :
    Calls Tryd.prog 18 #[.slice ao n cap] w (ReadP (Ce.prf (Ce.atF n g) n) n w) := by
  have hmf : ∀ (fn : Fn) (first cap : Array Value) (w : World), (Instr.makeFunc fn first cap).run Tryd.prog w = .ok (.func fn first cap) w := fun _ _ _ _ => rfl
  have hb0 : Below w.heap.size w ((((w.alloc (.cells #[.nilIface] 45)).alloc (.cells #[.int .i64 0] 3)).alloc (.cells #[.bool false] 4)).alloc (.cells #[.slice ao n cap, .int .i64 0] 74)) :=
    ((((Below.refl _ _).alloc (Nat.le_refl _) _).alloc (by simp) _).alloc (by simp; omega) _).alloc (by simp; omega) _
  have hrd := heap_alloc_new (((w.alloc (.cells #[.nilIface] 45)).alloc (.cells #[.int .i64 0] 3)).alloc (.cells #[.bool false] 4)) (.cells #[.slice ao n cap, .int .i64 0] 74)
  rw [World.size_alloc, World.size_alloc, World.size_alloc] at hrd
  have HX := Nu.hid (show Rtx _ (w.heap.size + 1 + 1 + 1) ao n cap 0 g from ⟨hrd, ht.later hb0, fun x hx => ⟨by have := (ha x hx).1; omega, (ha x hx).2⟩, hn, hcap, Nat.zero_le _⟩)
  have HB0 := Nu.hid hb0
  have HR0 := Nu.hid (rs17_new w ao n cap)
  obtain ⟨R, hR⟩ : ∃ R, Ce.prf (Ce.atF n g) n = R := ⟨_, rfl⟩
  rw [hR]
  have HP := Nu.hid (proof17_any HX.out)
  rw [hR] at HP
  clear ht hb0 hrd hR
  go_enter_defers Tryd.func18, Tryd.ntmps18
  go_wp2_with fail
  refine HP.out.mono ?_
  rintro e w1 ⟨hg1, ⟨c, j, v, hR, rfl, hv, h1, hj⟩ | ⟨q, hR, he⟩⟩
  · obtain ⟨tv, xv, rfl⟩ : ∃ tv xv, v = .iface tv xv := by
      rcases hv with ⟨-, -, va, -, rfl, -⟩ | ⟨-, -, ve, rfl, -⟩
      · exact ⟨_, _, rfl⟩
      · exact ⟨_, _, rfl⟩
    have hr1 := HR0.out.below hg1 (by omega)
    have hb1 : Below w.heap.size w w1 := HB0.out.grown hg1 (by simp; omega) (fun b hb => by cases hb; omega)
    have c0 := cell_of_one hr1.prf
    have f0 := free_of_one hr1.prf
    have HV := Nu.hid hv
    have HRR := Nu.hid hR
    clear hR
    have HR1 := Nu.hid hr1
    have HB1 := Nu.hid hb1
    have c1 : (w1.setCell ⟨w.heap.size, 0, none⟩ (.iface tv xv)).cell? ⟨w.heap.size + 1 + 1 + 1, 1, none⟩ = some (.int .i64 (j : Int)) := by
      rw [World.cell?_of_block (w := w1) (heap_setCell_other _ ⟨w.heap.size, 0, none⟩ _ _ (by dsimp only; omega))]
      exact h1.place
    by_cases hjn : j < n
    · have hji : (j : Int) < (n : Int) := by omega
      clear hg1 hv hr1 hb1 h1
      go_wp2_with fail
      refine leaves_cons (f := 25) (args := #[.pointer (some ⟨w.heap.size, 0, none⟩), .pointer (some ⟨w.heap.size + 1, 0, none⟩), .pointer (some ⟨w.heap.size + 1 + 1, 0, none⟩)]) (by simp) (by simp [go_sem]) ?_
      have hr2 : Rs17 (w1.setCell ⟨w.heap.size, 0, none⟩ (.iface tv xv)) w.heap.size (.iface tv xv) 0 false := by
        refine ⟨one_setCell HR1.out.prf, ?_, ?_⟩
        · rw [heap_setCell_other _ ⟨w.heap.size, 0, none⟩ _ _ (by simp)]; exact HR1.out.place
        · rw [heap_setCell_other _ ⟨w.heap.size, 0, none⟩ _ _ (by simp)]; exact HR1.out.is
      refine (catch17_fault w.heap.size j (.iface tv xv) 0 false w _ hr2 (HB1.out.setCell (p := ⟨w.heap.size, 0, none⟩) (Nat.le_refl _) (.iface tv xv)) (Nat.le_refl _)).mono ?_
      rintro e u' w3 ⟨rfl, rfl, hres3, hb3⟩
      exact ⟨_, results_read17 _ _ w.heap.size _ _ _ rfl rfl rfl hres3, hb3, .inr ⟨j, .inr ⟨c, HRR.out, hjn⟩, rfl⟩⟩
    · have hji : ¬ ((j : Int) < (n : Int)) := by omega
      have c0' : (w1.setCell ⟨w.heap.size, 0, none⟩ (.iface tv xv)).cell? ⟨w.heap.size, 0, none⟩ = some (.iface tv xv) := World.cell?_setCell_same _ _ _ c0
      have c2 := cell_of_one hr1.place
      have c3 := cell_of_one hr1.is
      have f1 := free_of_one hr1.place
      have f2 := free_of_one hr1.is
      clear hg1 hv hr1 hb1 h1
      go_wp2_with fail
      refine leaves_cons (f := 25) (args := #[.pointer (some ⟨w.heap.size, 0, none⟩), .pointer (some ⟨w.heap.size + 1, 0, none⟩), .pointer (some ⟨w.heap.size + 1 + 1, 0, none⟩)]) (by simp) (by simp [go_sem]) ?_
      refine (catch17_idle _ _ _ _).mono ?_
      rintro e u' w3 ⟨rfl, rfl, rfl⟩
      have hr2 : Rs17 (w1.setCell ⟨w.heap.size, 0, none⟩ (.iface tv xv)) w.heap.size (.iface tv xv) 0 false := by
        refine ⟨one_setCell HR1.out.prf, ?_, ?_⟩
        · rw [heap_setCell_other _ ⟨w.heap.size, 0, none⟩ _ _ (by simp)]; exact HR1.out.place
        · rw [heap_setCell_other _ ⟨w.heap.size, 0, none⟩ _ _ (by simp)]; exact HR1.out.is
      have hB : ((((w.alloc (.cells #[.nilIface] 45)).alloc (.cells #[.int .i64 0] 3)).alloc (.cells #[.bool false] 4)).alloc (.cells #[.slice ao n cap, .int .i64 0] 74)).heap.size = w.heap.size + 1 + 1 + 1 + 1 := by simp
      have hv2 := HV.out
      rw [hB] at hv2
      refine ⟨_, results_read17 _ _ w.heap.size (.iface tv xv) 0 true rfl rfl rfl hr2.put3, below_put3 (HB1.out.setCell (p := ⟨w.heap.size, 0, none⟩) (Nat.le_refl _) _) (Nat.le_refl _) _ _ _, .inl ⟨c, j, _, HRR.out, hjn, rfl, ?_⟩⟩
      refine (hv2.same fun k h1 _ => ?_).lower (by omega)
      rw [heap_setCell_other _ ⟨w.heap.size + 2, 0, none⟩ k _ (by dsimp only; omega), heap_setCell_other _ ⟨w.heap.size + 1, 0, none⟩ k _ (by dsimp only; omega), heap_setCell_other _ ⟨w.heap.size, 0, none⟩ k _ (by dsimp only; omega), heap_setCell_other _ ⟨w.heap.size, 0, none⟩ k _ (by dsimp only; omega)]
  · rw [faultAt] at he
    subst he
    have hr1 := HR0.out.below hg1 (by omega)
    have hb1 : Below w.heap.size w w1 := HB0.out.grown hg1 (by simp; omega) (fun b hb => by cases hb; omega)
    refine leaves_cons (f := 25) (args := #[.pointer (some ⟨w.heap.size, 0, none⟩), .pointer (some ⟨w.heap.size + 1, 0, none⟩), .pointer (some ⟨w.heap.size + 1 + 1, 0, none⟩)]) (by simp) (by simp [go_sem]) ?_
    refine (catch17_fault w.heap.size q _ _ _ w w1 hr1 hb1 (Nat.le_refl _)).mono ?_
    rintro e u' w3 ⟨rfl, rfl, hres3, hb3⟩
    exact ⟨_, results_read17 _ _ w.heap.size _ _ _ rfl rfl rfl hres3, hb3, .inr ⟨q, .inl hR, rfl⟩⟩
end Go.Proofs.YtodlejemkihjnaaDoor

/-
  The program's Parse.
-/
namespace Go.Proofs.YtodlejemkihjnaaDoor
open Go.RowKit

/-- What is read, where the text may be as long. -/
def Ce.fin (n : Nat) : Except Nat (Ce.Cert × Nat) → Ce.Cert × Int × Int
  | .error e => (Ce.zero, (e : Int), 170)
  | .ok (c, j) => if j < n then (Ce.zero, (j : Int), 170) else (c, 0, 0)
/-- The document's reading, by the program's parts. -/
theorem Ce.parse_prf {B : Nat → Int} {n : Nat} (hT : Ce.Txt B n) : Ce.parse B n = if 33554432 < n then ((Ce.zero, 33554432, 10) : Ce.Cert × Int × Int) else Ce.fin n (Ce.prf B n) := by
  unfold Ce.parse
  by_cases c0 : 33554432 < n
  · rw [if_pos c0, if_pos c0]
  · rw [if_neg c0, if_neg c0]
    unfold Ce.prf
    by_cases h1 : B 0 = 112
    · rw [if_neg (by omega), if_pos h1]
      unfold Ce.rds Ce.cnt
      by_cases c2 : B 1 ≠ 32
      · rw [if_pos c2, if_pos c2]; rfl
      · rw [if_neg c2, if_neg c2]
        cases hm : Ce.num B n 2 with
        | none => rfl
        | some q =>
          obtain ⟨k, i⟩ := q
          rw [decide_eq_true h1]
          dsimp only
          by_cases c3 : Ce.most true < k
          · rw [if_pos c3, if_pos (show (1048576 : Int) < k from c3)]; rfl
          · rw [if_neg c3, if_neg (show ¬ (1048576 : Int) < k from c3)]
            by_cases c4 : B i ≠ 10
            · rw [if_pos c4, if_pos c4]; rfl
            · rw [if_neg c4, if_neg c4]
              unfold Ce.bdy
              dsimp only
              rw [if_pos rfl]
              cases Ce.lists B n k.toNat [] (i + 1) with
              | error e => rfl
              | ok q => rfl
    · rw [if_neg h1]
      by_cases h2 : B 0 = 110
      · rw [if_neg (by omega), if_pos h2]
        unfold Ce.prt Ce.cnt
        by_cases c2 : B 1 ≠ 32
        · rw [if_pos c2, if_pos c2]; rfl
        · rw [if_neg c2, if_neg c2]
          have hn1 := Ce.in_of hT (Classical.byContradiction c2 : B 1 = 32) (by decide)
          cases hm : Ce.num B n 2 with
          | none => rfl
          | some q =>
            obtain ⟨k, i⟩ := q
            rw [decide_eq_false h1]
            dsimp only
            by_cases c3 : Ce.most false < k
            · rw [if_pos c3, if_pos (show (4194304 : Int) < k from c3)]; rfl
            · rw [if_neg c3, if_neg (show ¬ (4194304 : Int) < k from c3)]
              by_cases c4 : B i ≠ 10
              · rw [if_pos c4, if_pos c4]; rfl
              · rw [if_neg c4, if_neg c4]
                have hni := Ce.in_of hT (Classical.byContradiction c4 : B i = 10) (by decide)
                unfold Ce.bdy
                dsimp only
                rw [if_neg (by simp), Ce.edges_zero k.toNat (i + 1) (by omega) hT]
                cases Ce.edges B n k.toNat [] (-1, 0) (i + 1) with
                | error e => rfl
                | ok q => rfl
      · rw [if_pos ⟨h1, h2⟩, if_neg h2]
        rfl

set_option maxHeartbeats 2000000 in
set_option maxRecDepth 100000 in
theorem certOf17_any {c : Ce.Cert} {w : World} {B : Nat} {v : Value} (h : PrfV c w B v) :
    Calls Tryd.prog 19 #[v] w fun e w' => Below w.heap.size w w' ∧ ∃ u, e = .returned u ∧ CertAt w' B u c := by
  have hta1 : ∀ (v : Value) (w : World), (Instr.typeAssert (.iface 60 v) 45 60 true).run Tryd.prog w = .ok (.tuple #[v, .bool true]) w := fun _ _ => by kernel_rfl
  have hta2 : ∀ (v : Value) (w : World), (Instr.typeAssert (.iface 61 v) 45 60 true).run Tryd.prog w = .ok (.tuple #[.slice none 0 0, .bool false]) w := fun _ _ => by kernel_rfl
  have hta3 : ∀ (v : Value) (w : World), (Instr.typeAssert (.iface 61 v) 45 61 true).run Tryd.prog w = .ok (.tuple #[v, .bool true]) w := fun _ _ => by kernel_rfl
  obtain ⟨pl, ar, es⟩ := c
  rcases h with ⟨h1, h2, va, vs, rfl, hr⟩ | ⟨h1, h2, ve, rfl, ho⟩
  · dsimp only at h1 h2 hr
    subst h1 h2
    obtain ⟨ao, ca, rfl⟩ := row_shape hr
    have HR := Nu.hid hr
    clear hr hta2 hta3
    go_enter Tryd.func19, Tryd.ntmps19
    go_wp2
    have k0 : ((w.alloc (.cells #[.bool true, .slice ao ar.length ca, .slice none 0 0] 25)).alloc (.cells #[.bool true, .slice ao ar.length ca, .slice none 0 0] 25)).heap[w.heap.size]? = some (.cells #[.bool true, .slice ao ar.length ca, .slice none 0 0] 25 (0, 0)) := by
      rw [Below.heap_alloc _ _ _ (by simp)]
      exact heap_alloc_new w _
    have hb : Below w.heap.size w ((w.alloc (.cells #[.bool true, .slice ao ar.length ca, .slice none 0 0] 25)).alloc (.cells #[.bool true, .slice ao ar.length ca, .slice none 0 0] 25)) := ((Below.refl _ _).alloc (Nat.le_refl _) _).alloc (by simp) _
    refine bodyPost_ret (v := .agg #[.bool true, .slice ao ar.length ca, .slice none 0 0]) (results_cell_row (p := 2) (ty := 25) Tryd.results19 _ _ w.heap.size 25 _ (0, 0) _ rfl k0 Tryd.underlying25 rfl (by kernel_rfl)) rfl ?_
    exact ⟨hb, _, rfl, _, _, vs, rfl, HR.out.later hb, OwnE.nil _ _⟩
  · dsimp only at h1 h2 ho
    subst h1 h2
    obtain ⟨ao, ca, rfl, -⟩ := ho.form
    have HO := Nu.hid ho
    clear ho hta1
    go_enter Tryd.func19, Tryd.ntmps19
    go_wp2
    have k0 : ((w.alloc (.cells #[.bool false, .slice none 0 0, .slice ao es.length ca] 25)).alloc (.cells #[.bool false, .slice none 0 0, .slice ao es.length ca] 25)).heap[w.heap.size]? = some (.cells #[.bool false, .slice none 0 0, .slice ao es.length ca] 25 (0, 0)) := by
      rw [Below.heap_alloc _ _ _ (by simp)]
      exact heap_alloc_new w _
    have hb : Below w.heap.size w ((w.alloc (.cells #[.bool false, .slice none 0 0, .slice ao es.length ca] 25)).alloc (.cells #[.bool false, .slice none 0 0, .slice ao es.length ca] 25)) := ((Below.refl _ _).alloc (Nat.le_refl _) _).alloc (by simp) _
    refine bodyPost_ret (v := .agg #[.bool false, .slice none 0 0, .slice ao es.length ca]) (results_cell_row (p := 2) (ty := 25) Tryd.results19 _ _ w.heap.size 25 _ (0, 0) _ rfl k0 Tryd.underlying25 rfl (by kernel_rfl)) rfl ?_
    exact ⟨hb, _, rfl, _, _, [], rfl, RowsZ.nil _ _, HO.out.below hb (Nat.le_refl _)⟩

set_option maxHeartbeats 2000000 in
set_option maxRecDepth 100000 in
theorem parse17_any {ao : Option Addr} {n cap : Nat} {g : Nat → Int} {w : World} (ht : HasText w ao n g) (ha : ∀ x, ao = some x → x.block < w.heap.size ∧ x.spot = none) (hn : n ≤ 4611686018427387904) (hcap : n ≤ cap) :
    Calls Tryd.prog 9 #[.slice ao n cap] w (ParsP (Ce.parse (Ce.atF n g) n) w) := by
  rw [Ce.parse_prf ht.txt]
  by_cases c0 : 33554432 < n
  · have c0i : (33554432 : Int) < (n : Int) := by omega
    rw [if_pos c0]
    go_enter Tryd.func9, Tryd.ntmps9
    go_wp2
    refine bodyPost_ret (v := .tuple #[.agg #[.bool false, .slice none 0 0, .slice none 0 0], .int .i64 33554432, .int .i64 10]) (by simp [results, Tryd.results9, go_sem]) rfl ⟨?_, _, rfl, certAt_zero _ _⟩
    exact (Below.refl _ _).alloc (Nat.le_refl _) _
  · have c0i : ¬ ((33554432 : Int) < (n : Int)) := by omega
    rw [if_neg c0]
    have hb0 : Below w.heap.size w (w.alloc (.cells #[.bool false, .slice none 0 0, .slice none 0 0] 25)) := (Below.refl _ _).alloc (Nat.le_refl _) _
    have hz := heap_alloc_new w (.cells #[.bool false, .slice none 0 0, .slice none 0 0] 25)
    have HC := Nu.hid (read17_any (cap := cap) (ht.later hb0) (fun x hx => ⟨by have := (ha x hx).1; simp; omega, (ha x hx).2⟩) (by omega) hcap)
    obtain ⟨R, hR⟩ : ∃ R, Ce.prf (Ce.atF n g) n = R := ⟨_, rfl⟩
    rw [hR] at HC ⊢
    obtain ⟨X, hX⟩ : ∃ X : Ce.Cert × Int × Int, Ce.fin n R = X := ⟨_, rfl⟩
    rw [hX]
    have HX := Nu.hid hX
    have HZ := Nu.hid hz
    have HB0 := Nu.hid hb0
    clear ht hz hb0 hR hX
    go_enter Tryd.func9, Tryd.ntmps9
    go_wp2_with (go_at_call 18; refine HC.out.mono ?_; refine Hid.out ?_)
    refine Nu.hid ?_
    rintro e w1 ⟨hb1, ⟨c, j, v, hR, hj, rfl, hv⟩ | ⟨q, hR, rfl⟩⟩
    · subst hR
      have hx := HX.out
      rw [Ce.fin, if_neg hj] at hx
      subst hx
      have hz1 := (hb1.block _ (lt_of_block HZ.out)).trans HZ.out
      have HB1 := Nu.hid (HB0.out.trans (hb1.mono HB0.out.size))
      rw [World.size_alloc] at hv
      have HV := Nu.hid hv
      have HZ1 := Nu.hid hz1
      clear hb1 hv hz1
      go_wp2_with (go_at_call 19; refine (certOf17_any HV.out).mono ?_; rintro e w2 ⟨hb2, u, rfl, va, ve, vs, rfl, hrows, hown⟩; obtain ⟨va1, va2, rfl⟩ := row_shape hrows; obtain ⟨ve1, ve2, rfl, -⟩ := hown.form; have hz2 := (hb2.block _ (lt_of_block HZ1.out)).trans HZ1.out; have z0 := (three_cells17 hz2).1; have z1 := (three_cells17 hz2).2.1; have z2 := (three_cells17 hz2).2.2.1; have zf := (three_cells17 hz2).2.2.2)
      have k0 := three_set17 hz2 (.bool c.pl) (.slice va1 c.ar.length va2) (.slice ve1 c.es.length ve2)
      obtain ⟨r0, r1, r2, -⟩ := three_cells17 k0
      have ho : ∀ b, b ≠ w.heap.size → (((w2.setCell ⟨w.heap.size, 0, none⟩ (.bool c.pl)).setCell ⟨w.heap.size, 1, none⟩ (.slice va1 c.ar.length va2)).setCell ⟨w.heap.size, 2, none⟩ (.slice ve1 c.es.length ve2)).heap[b]? = w2.heap[b]? := fun b hb => by
        rw [heap_setCell_other _ ⟨w.heap.size, 2, none⟩ b _ hb, heap_setCell_other _ ⟨w.heap.size, 1, none⟩ b _ hb, heap_setCell_other _ ⟨w.heap.size, 0, none⟩ b _ hb]
      refine bodyPost_ret (v := .tuple #[.agg #[.bool c.pl, .slice va1 c.ar.length va2, .slice ve1 c.es.length ve2], .int .i64 0, .int .i64 0]) (by simp [results, Tryd.results9, go_sem, r0, r1, r2]) rfl ⟨?_, _, rfl, _, _, vs, rfl, ?_, ?_⟩
      · have hb3 : Below w.heap.size w w2 := HB1.out.trans (hb2.mono HB1.out.size)
        exact ((hb3.setCell (p := ⟨w.heap.size, 0, none⟩) (Nat.le_refl _) _).setCell (p := ⟨w.heap.size, 1, none⟩) (Nat.le_refl _) _).setCell (p := ⟨w.heap.size, 2, none⟩) (Nat.le_refl _) _
      · exact (hrows.same fun k h1 _ => ho k (by omega)).lower (by omega)
      · exact OwnE.lower (row_same hown fun k _ h1 _ => ho k (by omega)) (by omega)
    · have hx : ((Ce.zero, (q : Int), (170 : Int)) : Ce.Cert × Int × Int) = X := by
        rw [← HX.out]
        rcases hR with rfl | ⟨c, rfl, hq⟩
        · rfl
        · rw [Ce.fin, if_pos hq]
      subst hx
      have hz1 := (hb1.block _ (lt_of_block HZ.out)).trans HZ.out
      have HB1 := Nu.hid (HB0.out.trans (hb1.mono HB0.out.size))
      obtain ⟨z0, z1, z2, zf⟩ := three_cells17 hz1
      have k0 := three_set17 hz1 (.bool false) (.slice none 0 0) (.slice none 0 0)
      obtain ⟨r0, r1, r2, -⟩ := three_cells17 k0
      clear hb1 hR HC
      go_wp2
      refine bodyPost_ret (v := .tuple #[.agg #[.bool false, .slice none 0 0, .slice none 0 0], .int .i64 (q : Int), .int .i64 170]) (by simp [results, Tryd.results9, go_sem, r0, r1, r2]) rfl (parsP_err rfl ?_)
      exact ((HB1.out.setCell (p := ⟨w.heap.size, 0, none⟩) (Nat.le_refl _) _).setCell (p := ⟨w.heap.size, 1, none⟩) (Nat.le_refl _) _).setCell (p := ⟨w.heap.size, 2, none⟩) (Nat.le_refl _) _
end Go.Proofs.YtodlejemkihjnaaDoor

/-
  The program's writer: the text of edges.
-/
namespace Go.Proofs.YtodlejemkihjnaaDoor
open Go.RowKit

theorem edge_line (p : Int × Int) : Ce.edgeB p = Ce.lineB [p.1, p.2] := by
  unfold Ce.edgeB Ce.lineB
  simp [Ce.jn]

set_option maxHeartbeats 4000000 in
set_option maxRecDepth 100000 in
theorem write17_edges {w : World} {es : List (Int × Int)} {ao : Option Addr} {ca : Nat} (ha : EdgesAt w ao es) (hg : Ce.okEs es) (ht : Tab w) (T : List UInt8) (hT : Ce.textB ⟨false, [], es⟩ = T) :
    Calls Tryd.prog 12 #[.iface 61 (.slice ao es.length ca)] w fun e w' => Prt T e ∧ Below w.heap.size w w' := by
  have hta2 : ∀ (v : Value) (w : World), (Instr.typeAssert (.iface 61 v) 45 60 true).run Tryd.prog w = .ok (.tuple #[.slice none 0 0, .bool false]) w := fun _ _ => by kernel_rfl
  have hta3 : ∀ (v : Value) (w : World), (Instr.typeAssert (.iface 61 v) 45 61 true).run Tryd.prog w = .ok (.tuple #[v, .bool true]) w := fun _ _ => by kernel_rfl
  obtain ⟨n, hn⟩ : ∃ n, es.length = n := ⟨_, rfl⟩
  have hns : n ≤ 4194304 := by have := hg.2; omega
  have hok : Ce.okN (n : Int) := ⟨by omega, by omega⟩
  obtain ⟨H, hH⟩ : ∃ H, [110, 32] ++ Ce.lineB [(n : Int)] = H := ⟨_, rfl⟩
  have hTH : T = H ++ es.flatMap Ce.edgeB := by
    rw [← hT, ← hH]
    unfold Ce.textB Ce.cntC Ce.bodyB
    simp [hn, Ce.lineB, Ce.jn]
  have hT0 : T ≠ [] := by rw [hTH, ← hH]; simp
  have hHl : H.length ≤ 300000000 := by
    rw [← hH]
    have := Ce.line_hi [(n : Int)] (fun x hx => by rw [List.mem_singleton.1 hx]; exact hok)
    simp at this ⊢
    omega
  have hb0 : Below w.heap.size w (w.alloc (.cells #[.pointer none, .slice none 0 0, .bool false] 66)) := (Below.refl _ _).alloc (Nat.le_refl _) _
  have HHEAD := Nu.hid (whead17_any (S := [110, 32]) (Wrt.new (B := w.heap.size) w (Nat.le_refl _)) (by simp) (by simp) hok (fun W hW => tab_below ht W (hb0.trans hW)))
  rw [hH] at HHEAD
  have HTB := Nu.hid (tab_below ht)
  have HA := Nu.hid ha
  have HG := Nu.hid hg.1
  have HN := Nu.hid hn
  have HTH := Nu.hid hTH
  have HHL := Nu.hid hHl
  have HB0 := Nu.hid hb0
  rw [hn]
  clear ha hg ht hn hTH hHl hb0 hH hT
  go_enter Tryd.func12, Tryd.ntmps12
  go_wp2_with (go_at_call 20; refine HHEAD.out.mono ?_; rintro e w1 ⟨rfl, hw1, hb1⟩; have HW1 := Nu.hid hw1; have HB1 := Nu.hid (HB0.out.trans hb1); clear hw1 hb1)
  go_loopw [35] (fun iv wr => ∃ k : Nat, k ≤ n ∧ iv = .int .i64 (k : Int) ∧ WrS wr w.heap.size w.heap.size T (H ++ (es.take k).flatMap Ce.edgeB) ∧ Below w.heap.size w wr) (fun iv _ => n - (intOf iv).toNat)
  case atStart => exact ⟨0, Nat.zero_le _, rfl, ⟨H, false, HW1.out, HHL.out, .inl ⟨rfl, by simp⟩⟩, HB1.out⟩
  case round =>
    obtain ⟨k, hk, rfl, hw, hb⟩ := hrel
    have HW := Nu.hid hw
    have HB := Nu.hid hb
    have hsz := hb.size
    by_cases hlt : k < n
    · have hlti : (k : Int) < (n : Int) := by omega
      obtain ⟨⟨u, v⟩, hlk⟩ : ∃ p, es[k]? = some p := ⟨_, List.getElem?_eq_getElem (by have := HN.out; omega)⟩
      obtain ⟨b, o, rfl, g0, g1⟩ := (HA.out.later hb) k (u, v) hlk
      dsimp only at g0 g1
      have hmm := List.mem_of_getElem? hlk
      have hxs : ∃ R, T = (H ++ (es.take k).flatMap Ce.edgeB) ++ Ce.lineB [u, v] ++ R := by
        obtain ⟨R, hR⟩ := flat_split Ce.edgeB es hlk
        exact ⟨R, by rw [HTH.out, hR, edge_line]; simp⟩
      have hz1 : Below wr.heap.size wr (wr.alloc (.cells #[.int .i64 u, .int .i64 v] 41)) := (Below.refl _ _).alloc (Nat.le_refl _) _
      have hz2 : Below wr.heap.size wr ((wr.alloc (.cells #[.int .i64 u, .int .i64 v] 41)).alloc (.cells #[.int .i64 u, .int .i64 v] 3)) := hz1.alloc (by simp) _
      have hI : IntsAt ((wr.alloc (.cells #[.int .i64 u, .int .i64 v] 41)).alloc (.cells #[.int .i64 u, .int .i64 v] 3)) (some ⟨(wr.alloc (.cells #[.int .i64 u, .int .i64 v] 41)).heap.size, 0, none⟩) [u, v] := IntsBlk.at (l := [u, v]) (heap_alloc_new _ _)
      rw [World.size_alloc] at hI
      have hwz : WrS ((wr.alloc (.cells #[.int .i64 u, .int .i64 v] 41)).alloc (.cells #[.int .i64 u, .int .i64 v] 3)) w.heap.size w.heap.size T (H ++ (es.take k).flatMap Ce.edgeB) := by
        obtain ⟨L, t, h1, h2⟩ := hw
        exact ⟨L, t, h1.later hz2, h2⟩
      have HZ := Nu.hid (hb.trans (hz2.mono hsz))
      have HC := Nu.hid (hwz.line (l := [u, v]) (c := 2) (by simp; omega) hI (fun x hx => by
        have := HG.out.1 (u, v) hmm
        simp at hx
        rcases hx with rfl | rfl
        · exact this.1
        · exact this.2.1) (by simp) (HTB.out _ HZ.out) hxs)
      have HLK := Nu.hid hlk
      have k0 : (0 : Int) ≤ (k : Int) := by omega
      clear hw hb hlk hxs hz1 hz2 hI hwz hmm
      go_wp2_with (go_at_call 21; refine HC.out.mono ?_; rintro e w2 ⟨rfl, hw2, hb2⟩; have HW2 := Nu.hid hw2; have HB2 := Nu.hid (HZ.out.trans hb2); clear hw2 hb2)
      go_roundw
      case rel => exact ⟨k + 1, by omega, by go_num, by rw [flat_take Ce.edgeB es HLK.out, ← List.append_assoc, edge_line]; exact HW2.out, HB2.out⟩
      case measure => simp [intOf]; omega
    · have hlti : ¬ ((k : Int) < (n : Int)) := by omega
      obtain rfl : k = n := by omega
      have hte : es.take k = es := by rw [← HN.out]; exact List.take_length
      rw [hte, ← HTH.out] at hw
      obtain ⟨K, t, c2, hlen, hx⟩ := hw.end hT0
      have HLEN := Nu.hid hlen
      clear hw hb hlen
      rcases hx with ⟨rfl, hlong⟩ | ⟨rfl, rfl, hstr⟩
      · go_wp2
        go_ret2
        exact ⟨.inl ⟨hlong, rfl⟩, HB.out⟩
      · have HSTR := Nu.hid hstr
        clear hstr
        by_cases hlong : 33554432 < T.length
        · have hli : (33554432 : Int) < (T.length : Int) := by omega
          go_wp2_with (go_at_call 22; refine HLEN.out.mono ?_; rintro e w' ⟨rfl, hw'⟩; obtain rfl := hw'.symm; clear hw')
          go_ret2
          exact ⟨.inl ⟨hlong, rfl⟩, HB.out⟩
        · have hli : ¬ ((33554432 : Int) < (T.length : Int)) := by omega
          go_wp2_with (first | (go_at_call 22; refine HLEN.out.mono ?_; rintro e w' ⟨rfl, hw'⟩; obtain rfl := hw'.symm; clear hw') | (go_at_call 23; refine HSTR.out.mono ?_; rintro e w4 ⟨rfl, hb4⟩; have HB4 := Nu.hid (HB.out.trans hb4); clear hb4))
          go_ret2
          exact ⟨.inr ⟨by omega, rfl⟩, HB4.out⟩
end Go.Proofs.YtodlejemkihjnaaDoor
