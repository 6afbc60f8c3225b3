import Derived.Test.YtodlejemkihjnaaDoorMg16
import Derived.Defers
import Derived.Recover
import Derived.Test.YtodlejemkihjnaaDoorMg04
import Derived.Deep.QuietTactic
import Derived.BigQuiet
import Derived.Test.YtodlejemkihjnaaDoorMg11
import Derived.Deep.RegionHeld3
import Derived.Test.YtodlejemkihjnaaDoorMg13
import Derived.Test.YtodlejemkihjnaaDoorMg10
/-
  What the function that Scan defers does: it takes a fault up and lays it into the results, or finds nothing.
-/
namespace Go.Proofs.YtodlejemkihjnaaDoor
open Go.RowKit

set_option maxHeartbeats 1000000 in
theorem catch_idle (p q r : Addr) (w : World) :
    CallsD Tryd.prog 48 #[.pointer (some p), .pointer (some q), .pointer (some r)] .returning w fun e u' w' => e = .returned (.tuple #[]) ∧ u' = .returning ∧ w' = w := by
  refine callsD_of_wpS Tryd.func48 rfl fun c₀ cs hu => ?_
  apply wpS_seq
  apply wpS_region
  simp [wpOpsS, go_sem, recoverD, hu, Tryd.ntmps48, Exit.thenS]
  refine wpS_of_wp ?_
  go_wp2
  cases c₀
  simp_all [bodyPostS, results, Tryd.results48]

/-- The three results of Scan lie in the blocks A, A + 1, A + 2. -/
structure Res (w : World) (A : Nat) (s : Value) (at' code : Int) : Prop where
  toks : w.heap[A]? = some (.cells #[s] 97 (0, 0))
  place : w.heap[A + 1]? = some (.cells #[.int .i64 at'] 3 (0, 0))
  code : w.heap[A + 2]? = some (.cells #[.int .i64 code] 29 (0, 0))

/-- The results laid anew. -/
def put3 (w : World) (A : Nat) (s : Value) (a c : Int) : World := ((w.setCell ⟨A, 0, none⟩ s).setCell ⟨A + 1, 0, none⟩ (.int .i64 a)).setCell ⟨A + 2, 0, none⟩ (.int .i64 c)

theorem Res.put3 {w : World} {A : Nat} {s s' : Value} {a c a' c' : Int} (h : Res w A s a c) : Res (put3 w A s' a' c') A s' a' c' := by
  refine ⟨?_, ?_, ?_⟩
  · unfold Go.Proofs.YtodlejemkihjnaaDoor.put3
    rw [heap_setCell_other _ ⟨A + 2, 0, none⟩ A _ (by simp), heap_setCell_other _ ⟨A + 1, 0, none⟩ A _ (by simp)]
    exact one_setCell h.toks
  · unfold Go.Proofs.YtodlejemkihjnaaDoor.put3
    rw [heap_setCell_other _ ⟨A + 2, 0, none⟩ (A + 1) _ (by simp)]
    refine one_setCell (v := .int .i64 a) ?_
    rw [heap_setCell_other _ ⟨A, 0, none⟩ (A + 1) _ (by simp)]
    exact h.place
  · unfold Go.Proofs.YtodlejemkihjnaaDoor.put3
    refine one_setCell (v := .int .i64 c) ?_
    rw [heap_setCell_other _ ⟨A + 1, 0, none⟩ (A + 2) _ (by simp), heap_setCell_other _ ⟨A, 0, none⟩ (A + 2) _ (by simp)]
    exact h.code

theorem put3_other (w : World) (A : Nat) (s : Value) (a c : Int) (k : Nat) (hk : k < A ∨ A + 2 < k) : (put3 w A s a c).heap[k]? = w.heap[k]? := by
  unfold put3
  rw [heap_setCell_other _ ⟨A + 2, 0, none⟩ k _ (by simp; omega), heap_setCell_other _ ⟨A + 1, 0, none⟩ k _ (by simp; omega), heap_setCell_other _ ⟨A, 0, none⟩ k _ (by simp; omega)]

theorem put3_size (w : World) (A : Nat) (s : Value) (a c : Int) : (put3 w A s a c).heap.size = w.heap.size := by simp [put3]

theorem put3_below (w : World) (A : Nat) (s : Value) (a c : Int) : Below A w (put3 w A s a c) :=
  ⟨rfl, rfl, rfl, by rw [put3_size]; exact Nat.le_refl _, fun k hk => put3_other w A s a c k (.inl hk)⟩

theorem Res.alloc {w : World} {A : Nat} {s : Value} {a c : Int} (h : Res w A s a c) (o : Obj) : Res (w.alloc o) A s a c :=
  ⟨(Below.heap_alloc w o A (lt_of_block h.toks)).trans h.toks, (Below.heap_alloc w o (A + 1) (lt_of_block h.place)).trans h.place, (Below.heap_alloc w o (A + 2) (lt_of_block h.code)).trans h.code⟩

theorem Res.drew {w : World} {A : Nat} {s : Value} {a c : Int} (h : Res w A s a c) : Res w.drew A s a c := ⟨h.toks, h.place, h.code⟩

theorem Res.grown {w w' : World} {A : Nat} {s : Value} {a c : Int} (h : Res w A s a c) (hg : w.grownBy w' none) : Res w' A s a c :=
  ⟨(hg.block A (lt_of_block h.toks) (by simp)).trans h.toks, (hg.block (A + 1) (lt_of_block h.place) (by simp)).trans h.place, (hg.block (A + 2) (lt_of_block h.code) (by simp)).trans h.code⟩

set_option maxHeartbeats 1000000 in
theorem catch_fault (A : Nat) (s : Value) (a c : Int) (x : Nat × Int) (w : World) (hr : Res w A s a c) :
    CallsD Tryd.prog 48 #[.pointer (some ⟨A, 0, none⟩), .pointer (some ⟨A + 1, 0, none⟩), .pointer (some ⟨A + 2, 0, none⟩)] (.panicking [{ v := faultV x, recovered := false }]) w fun e u' w' =>
      e = .returned (.tuple #[]) ∧ u' = .panicking [{ v := faultV x, recovered := true }] ∧ Res w' A (.slice none 0 0) x.1 x.2 ∧ Below A w w' := by
  have c0 := cell_of_one hr.toks
  have c1 := cell_of_one hr.place
  have c2 := cell_of_one hr.code
  have f0 := free_of_one hr.toks
  have f1 := free_of_one hr.place
  have f2 := free_of_one hr.code
  have l2 := lt_of_block hr.code
  have l1 := lt_of_block hr.place
  have l0 := lt_of_block hr.toks
  have hta : ∀ (v : Value) (w : World), (Instr.typeAssert (.iface 110 v) 20 110 true).run Tryd.prog w = .ok (.tuple #[v, .bool true]) w := fun _ _ => by kernel_rfl
  refine callsD_of_wpS Tryd.func48 rfl fun c₀ cs hu => ?_
  unfold faultV at hu ⊢
  apply wpS_seq
  apply wpS_region
  simp [wpOpsS, go_sem, recoverD, hu, Tryd.ntmps48, Exit.thenS, Array.replicate]
  refine wpS_of_wp ?_
  have HR := Nu.hid hr
  clear hr
  go_wp2
  go_region
  go_wp2
  exact ⟨rfl, _, rfl, .tuple #[], by simp [results, Tryd.results48], rfl, rfl, (HR.out.put3 (s' := .slice none 0 0) (a' := x.1) (c' := x.2)).alloc _ |>.drew, (put3_below w A (.slice none 0 0) x.1 x.2).trans (((Below.refl A _).alloc (by rw [put3_size]; omega) _).drew)⟩

end Go.Proofs.YtodlejemkihjnaaDoor

/-
  What Scan answers, of any bytes: the tokens in new memory, or the first fault's place and number, or that the bytes are too many.
-/
namespace Go.Proofs.YtodlejemkihjnaaDoor
open Go.RowKit

def ScanPost (n : Nat) (g : Nat → Int) (w : World) (e : Ending) (w' : World) : Prop :=
  Below w.heap.size w w' ∧
  ((33554432 < n ∧ e = .returned (.tuple #[.slice none 0 0, .int .i64 33554432, .int .i64 10])) ∨
   (n ≤ 33554432 ∧ ∃ x, Nu.scan g n = .error x ∧ e = .returned (.tuple #[.slice none 0 0, .int .i64 x.1, .int .i64 x.2])) ∨
   (n ≤ 33554432 ∧ ∃ ts T, Nu.scan g n = .ok ts ∧ e = .returned (.tuple #[.slice (some ⟨T, 0, none⟩) ts.length ts.length, .int .i64 0, .int .i64 0]) ∧ w.heap.size ≤ T ∧ RowToks w' T ts.length ts))

theorem Below_of_grown {w w' : World} (h : w.grownBy w' none) : Below w.heap.size w w' := ⟨h.os, h.tape, h.output, h.size, fun k hk => h.block k hk (by simp)⟩

theorem res_new (w : World) (s : Value) (a c : Int) : Res (((w.alloc (.cells #[s] 97)).alloc (.cells #[.int .i64 a] 3)).alloc (.cells #[.int .i64 c] 29)) w.heap.size s a c := by
  refine ⟨?_, ?_, ?_⟩
  · rw [Below.heap_alloc _ _ _ (by simp; omega), Below.heap_alloc _ _ _ (by simp)]
    exact heap_alloc_new w _
  · rw [Below.heap_alloc _ _ _ (by simp)]
    have := heap_alloc_new (w.alloc (.cells #[s] 97)) (.cells #[.int .i64 a] 3)
    simpa using this
  · have := heap_alloc_new ((w.alloc (.cells #[s] 97)).alloc (.cells #[.int .i64 a] 3)) (.cells #[.int .i64 c] 29)
    simpa using this

theorem results_scan (tmps : Array Value) (W : World) (A : Nat) (s : Value) (a c : Int) (h2 : tmps.getD 2 undef = .pointer (some ⟨A, 0, none⟩)) (h3 : tmps.getD 3 undef = .pointer (some ⟨A + 1, 0, none⟩)) (h4 : tmps.getD 4 undef = .pointer (some ⟨A + 2, 0, none⟩)) (hr : Res W A s a c) :
    (results Tryd.f43 tmps).run Tryd.prog W = .ok (.tuple #[s, .int .i64 a, .int .i64 c]) W := by
  have c0 := cell_of_one hr.toks
  have c1 := cell_of_one hr.place
  have c2 := cell_of_one hr.code
  have k2 : tmps[2]?.getD undef = .pointer (some ⟨A, 0, none⟩) := by simpa using h2
  have k3 : tmps[3]?.getD undef = .pointer (some ⟨A + 1, 0, none⟩) := by simpa using h3
  have k4 : tmps[4]?.getD undef = .pointer (some ⟨A + 2, 0, none⟩) := by simpa using h4
  simp [results, Tryd.results43, go_sem, k2, k3, k4, c0, c1, c2]

set_option maxHeartbeats 2000000 in
theorem scan_any (ao : Option Addr) (n cap : Nat) (g : Nat → Int) (w : World) (ht : HasText w ao n g) (hao : ∀ x, ao = some x → x.block < w.heap.size) (hn : n ≤ maxLen) (hcap : n ≤ cap) :
    Calls Tryd.prog 43 #[.slice ao n cap] w (ScanPost n g w) := by
  unfold maxLen at hn
  have hmf : ∀ (fn : Fn) (first cap : Array Value) (w : World), (Instr.makeFunc fn first cap).run Tryd.prog w = .ok (.func fn first cap) w := fun _ _ _ _ => rfl
  by_cases hA : 33554432 < n
  · have j0 : (33554432 : Int) < (n : Int) := by omega
    go_enter_defers Tryd.func43, Tryd.ntmps43
    go_wp2
    have hres : Res (((w.alloc (.cells #[.slice none 0 0] 97)).alloc (.cells #[.int .i64 33554432] 3)).alloc (.cells #[.int .i64 10] 29)) w.heap.size (.slice none 0 0) 33554432 10 := res_new w _ _ _
    refine ⟨_, results_scan _ _ w.heap.size _ _ _ rfl rfl rfl hres, ?_, .inl ⟨hA, rfl⟩⟩
    exact (((Below.refl _ _).alloc (Nat.le_refl _) _).alloc (by simp) _).alloc (by simp; omega) _
  · have j0 : ¬ ((33554432 : Int) < (n : Int)) := by omega
    go_enter_defers Tryd.func43, Tryd.ntmps43
    have hres := res_new w (.slice none 0 0) 0 0
    have hg0 : w.grownBy (((w.alloc (.cells #[.slice none 0 0] 97)).alloc (.cells #[.int .i64 0] 3)).alloc (.cells #[.int .i64 0] 29)) none := grownBy_alloc' (grownBy_alloc' (World.grownBy_alloc w _ none) _) _
    have ht0 := ht.grown0 hg0
    have hsz : (((w.alloc (.cells #[.slice none 0 0] 97)).alloc (.cells #[.int .i64 0] 3)).alloc (.cells #[.int .i64 0] 29)).heap.size = w.heap.size + 3 := by simp
    have HS := Nu.hid hsz
    have HG0 := Nu.hid hg0
    have HT0 := Nu.hid ht0
    have HRES := Nu.hid hres
    clear hsz hg0 ht0 hres ht
    go_wp2_with fail
    refine (count_any ao n cap g _ HT0.out (fun x hx => by rw [HS.out]; have := hao x hx; omega) (by omega) hcap).mono ?_
    rintro e w1 ⟨hg1, hx⟩
    have hres1 := HRES.out.grown hg1
    have hb1 : Below w.heap.size w w1 := Below_of_grown (grownBy_trans HG0.out hg1)
    have hs1 : w.heap.size + 3 ≤ w1.heap.size := by rw [← HS.out]; exact hg1.size
    rcases hx with ⟨ts, hsc, rfl⟩ | ⟨x, hsc, rfl⟩
    · have ht1 := HT0.out.grown0 hg1
      have HT1 := Nu.hid ht1
      have HR1 := Nu.hid hres1
      have HB1 := Nu.hid hb1
      have HSC := Nu.hid hsc
      clear ht1 hres1 hb1 hg1 hsc
      go_wp2_with (go_at_call 49; refine (gather_any ao n cap g ts _ HT1.out (fun x hx => by have := hao x hx; omega) (by omega) hcap HSC.out).mono ?_; refine Hid.out ?_)
      refine Nu.hid ?_
      rintro e w2 ⟨T, rfl, hT, hrow, hg2⟩
      have hres2 := HR1.out.grown hg2
      have c0 := cell_of_one hres2.toks
      have c1 := cell_of_one hres2.place
      have c2 := cell_of_one hres2.code
      have f0 := free_of_one hres2.toks
      have f1 := free_of_one hres2.place
      have f2 := free_of_one hres2.code
      have HR2 := Nu.hid hres2
      have HROW := Nu.hid hrow
      have HB2 := Nu.hid (HB1.out.trans ((Below_of_grown hg2).mono (by omega)))
      clear hres2 hrow hg2
      go_wp2
      have hput : RowToks (put3 w2 w.heap.size (.slice (some ⟨T, 0, none⟩) ts.length ts.length) 0 0) T ts.length ts := by
        obtain ⟨arr, h1, h2⟩ := HROW.out
        exact ⟨arr, (put3_other _ _ _ _ _ T (.inr (by omega))).trans h1, h2⟩
      refine leaves_cons (f := 48) (args := #[.pointer (some ⟨w.heap.size, 0, none⟩), .pointer (some ⟨w.heap.size + 1, 0, none⟩), .pointer (some ⟨w.heap.size + 1 + 1, 0, none⟩)]) (by simp) (by simp [go_sem]) ?_
      refine (catch_idle _ _ _ _).mono ?_
      rintro e u' w3 ⟨rfl, rfl, rfl⟩
      exact ⟨_, results_scan _ _ w.heap.size _ _ _ rfl rfl rfl (HR2.out.put3 (s' := .slice (some ⟨T, 0, none⟩) ts.length ts.length) (a' := 0) (c' := 0)), HB2.out.trans (put3_below _ _ _ _ _), .inr (.inr ⟨by omega, ts, T, HSC.out, rfl, by omega, hput⟩)⟩
    · refine leaves_cons (f := 48) (args := #[.pointer (some ⟨w.heap.size, 0, none⟩), .pointer (some ⟨w.heap.size + 1, 0, none⟩), .pointer (some ⟨w.heap.size + 1 + 1, 0, none⟩)]) (by simp) (by simp [go_sem]) ?_
      refine (catch_fault w.heap.size _ _ _ x w1 hres1).mono ?_
      rintro e u' w3 ⟨rfl, rfl, hres3, hb3⟩
      exact ⟨_, results_scan _ _ w.heap.size _ _ _ rfl rfl rfl hres3, hb1.trans hb3, .inr (.inl ⟨by omega, x, hsc, rfl⟩)⟩

end Go.Proofs.YtodlejemkihjnaaDoor

/-
  The document's own SameInts.
-/
namespace Go.Proofs.YtodlejemkihjnaaDoor
open Go.RowKit

set_option maxRecDepth 100000 in
set_option maxHeartbeats 4000000 in
theorem sameints17_any (ao bo : Option Addr) (ca cb n m : Nat) (l l' : List Int) (w : World) (hn : l.length = n) (hm : l'.length = m) (ha : IntsAt w ao l) (hb : IntsAt w bo l') (hl : n ≤ 4611686018427387904) :
    Calls Tryd.prog 24 #[.slice ao n ca, .slice bo m cb] w fun e w' => e = .returned (.bool (decide (l = l'))) ∧ Below w.heap.size w w' := by
  have HA := Nu.hid ha
  have HB := Nu.hid hb
  have HN := Nu.hid hn
  have HM := Nu.hid hm
  clear ha hb
  by_cases hll : n = m
  · have j1 : ((n : Int) != (m : Int)) = false := by simp [hll]
    have HLL := Nu.hid hll
    have hnm : (n : Int) = (m : Int) := by omega
    clear hll hn hm
    go_enter Tryd.func24, Tryd.ntmps24
    have HNM := Nu.hid hnm
    clear hnm
    go_wp2
    go_loopw [5] (fun c wr => ∃ k : Nat, k ≤ n ∧ c = .int .i64 k ∧ (∀ j, j < k → l[j]? = l'[j]?) ∧ Below w.heap.size w wr) (fun c _ => n - (intOf c).toNat)
    case atStart => exact ⟨0, Nat.zero_le _, rfl, fun j h => by omega, Below.refl _ _⟩
    case round =>
      obtain ⟨k, hk, rfl, hsame, hbw⟩ := hrel
      have HSAME := Nu.hid hsame
      have HBW := Nu.hid hbw
      clear hsame
      by_cases hlt : k < n
      · have hlti : (k : Int) < (n : Int) := by omega
        have hk0 : (0 : Int) ≤ (k : Int) := by omega
        have hlm : (k : Int) < (m : Int) := by have := HNM.out; omega
        obtain ⟨x, hx⟩ : ∃ x, l[k]? = some x := ⟨_, List.getElem?_eq_getElem (by have := HN.out; omega)⟩
        obtain ⟨y, hy⟩ : ∃ y, l'[k]? = some y := ⟨_, List.getElem?_eq_getElem (by have := HM.out; omega)⟩
        obtain ⟨b, o, rfl, c0⟩ := (HA.out.later hbw) k x hx
        obtain ⟨b', o', rfl, d0⟩ := (HB.out.later hbw) k y hy
        have hbl : b < wr.heap.size := block_lt_of_cell c0
        have hbl' : b' < wr.heap.size := block_lt_of_cell d0
        have HX := Nu.hid hx
        have HY := Nu.hid hy
        clear hx hy hbw
        by_cases e1 : x = y
        · have t1 : (x != y) = false := by simp [e1]
          have HXY := Nu.hid e1
          clear e1
          go_wp2_with fail
          go_quiet (fail)
          go_wp2
          go_roundw
          case rel =>
            refine ⟨k + 1, by omega, by go_num, fun j hj => ?_, below_drewN HBW.out _⟩
            by_cases hjk : j = k
            · subst hjk; rw [HX.out, HY.out, HXY.out]
            · exact HSAME.out j (by omega)
          case measure => simp [intOf]; omega
        · have t1 : (x != y) = true := by simp [e1]
          have hv : decide (l = l') = false := by
            simp only [decide_eq_false_iff_not]
            intro h
            rw [h, HY.out] at HX
            cases HX.out
            exact e1 rfl
          have HV := Nu.hid hv
          clear hv
          go_wp2_with fail
          go_quiet (fail)
          go_wp2
          go_ret
          exact ⟨by rw [HV.out]; rfl, below_drewN HBW.out _⟩
      · have hd : ¬ ((k : Int) < (n : Int)) := by omega
        have hv : decide (l = l') = true := by
          simp only [decide_eq_true_eq]
          refine List.ext_getElem? fun j => ?_
          by_cases hj : j < k
          · exact HSAME.out j hj
          · rw [List.getElem?_eq_none (by have := HN.out; omega), List.getElem?_eq_none (by have := HM.out; have := HLL.out; omega)]
        have HV := Nu.hid hv
        clear hv hbw
        go_wp2
        go_ret
        exact ⟨by rw [HV.out]; rfl, HBW.out⟩
  · have j1 : ((n : Int) != (m : Int)) = true := by simp; omega
    have hv : decide (l = l') = false := by
      simp only [decide_eq_false_iff_not]
      intro h
      rw [h] at hn
      omega
    rw [hv]
    clear hll hn hm hv
    go_enter Tryd.func24, Tryd.ntmps24
    go_wp2
    go_ret
    exact ⟨rfl, Below.refl _ _⟩

end Go.Proofs.YtodlejemkihjnaaDoor

/-
  Lists that can be read, wherever they lie: the document's SameLists of layer 1.
-/
namespace Go.Proofs.YtodlejemkihjnaaDoor
open Go.RowKit Go.Sort

set_option maxRecDepth 100000 in
set_option maxHeartbeats 8000000 in
/-- Lists of lists that read alike are the same. -/
theorem samelists17 (ao ao' : Option Addr) (c c' : Nat) (ls : List (List Int)) (w : World) (hr : Ce.ListsAt w ao ls) (hr' : Ce.ListsAt w ao' ls) (hl : ls.length ≤ 4611686018427387904) (hll : ∀ l ∈ ls, l.length ≤ 4611686018427387904) :
    Calls Tryd.prog 13 #[.slice ao ls.length c, .slice ao' ls.length c'] w fun e w' => e = .returned (.bool true) ∧ Below w.heap.size w w' := by
  have H := Nu.hid hr
  have H' := Nu.hid hr'
  have HLL := Nu.hid hll
  have j1 : ((ls.length : Int) != (ls.length : Int)) = false := by simp
  clear hll hr hr'
  go_enter Tryd.func13, Tryd.ntmps13
  go_wp2
  go_loopw [5] (fun cv wr => ∃ k : Nat, k ≤ ls.length ∧ cv = .int .i64 (k : Int) ∧ Below w.heap.size w wr) (fun cv _ => ls.length - (intOf cv).toNat)
  case atStart => exact ⟨0, Nat.zero_le _, rfl, Below.refl _ _⟩
  case round =>
    obtain ⟨k, hk, rfl, hb⟩ := hrel
    have HB := Nu.hid hb
    by_cases hlt : k < ls.length
    · have hlti : (k : Int) < (ls.length : Int) := by omega
      have hk0 : (0 : Int) ≤ (k : Int) := by omega
      obtain ⟨l, hlk⟩ : ∃ l, ls[k]? = some l := ⟨_, List.getElem?_eq_getElem hlt⟩
      obtain ⟨g, go, xo, xc, rfl, cx0, hxa0⟩ := H.out k l hlk
      obtain ⟨g', go', yo, yc, rfl, cy0, hya0⟩ := H'.out k l hlk
      have cx := (hb.cell (p := ⟨g, go + k, none⟩) (block_lt_of_cell cx0)).trans cx0
      have cy := (hb.cell (p := ⟨g', go' + k, none⟩) (block_lt_of_cell cy0)).trans cy0
      have hxa := hxa0.later hb
      have hya := hya0.later hb
      have hsz : l.length ≤ 4611686018427387904 := HLL.out l (List.mem_of_getElem? hlk)
      have hsame : ∀ W, Below wr.heap.size wr W → Calls Tryd.prog 24 #[.slice xo l.length xc, .slice yo l.length yc] W fun e w' => e = .returned (.bool true) ∧ Below W.heap.size W w' := fun W hbW => by
        refine (sameints17_any xo yo xc yc l.length l.length l l W rfl rfl (hxa.later hbW) (hya.later hbW) hsz).mono ?_
        rintro e w' ⟨h1, h2⟩
        exact ⟨by rw [h1]; simp, h2⟩
      have HSAME := Nu.hid hsame
      obtain ⟨p1, hp1⟩ : ∃ p1, l.length = p1 := ⟨_, rfl⟩
      rw [hp1] at cx cy HSAME
      have hS : ∀ W, Below wr.heap.size wr W → (W.cell? ⟨g, go + k, none⟩ = some (.slice xo p1 xc) ∧ W.cell? ⟨g', go' + k, none⟩ = some (.slice yo p1 yc) ∧ Below wr.heap.size wr W) := fun W hbW =>
        ⟨(hbW.cell (p := ⟨g, go + k, none⟩) (block_lt_of_cell cx)).trans cx, (hbW.cell (p := ⟨g', go' + k, none⟩) (block_lt_of_cell cy)).trans cy, hbW⟩
      have HS := Nu.hid hS
      have hbr : Below wr.heap.size wr wr.drew := (Below.refl _ _).drew
      clear hxa hya hlk hb hsame hS hp1 hsz cx0 cy0 hxa0 hya0
      go_wp2_with fail
      go_region_held3 (fun W => W.cell? ⟨g, go + k, none⟩ = some (.slice xo p1 xc) ∧ W.cell? ⟨g', go' + k, none⟩ = some (.slice yo p1 yc) ∧ Below wr.heap.size wr W)
        (exact HS.out _ (by first | assumption | exact hbr))
        ((go_at_call 24; refine (HSAME.out _ (by first | assumption | exact hbr)).mono ?_; rintro e w6 ⟨rfl, hbs⟩; have hbz : Below wr.heap.size wr w6 := Below.trans (by first | assumption | exact hbr) (hbs.mono (Below.size (by first | assumption | exact hbr)))))
      have HBZ := Nu.hid (HB.out.trans (hbz.mono HB.out.size))
      clear hbz hbs HSAME HS hbr
      go_wp2
      go_roundw
      case rel => exact ⟨k + 1, by omega, by go_num, HBZ.out⟩
      case measure => simp [intOf]; omega
    · have hd : ¬ ((k : Int) < (ls.length : Int)) := by omega
      clear hb
      go_wp2
      go_ret
      exact ⟨rfl, HB.out⟩

end Go.Proofs.YtodlejemkihjnaaDoor

/-
  The document's Same of two certificates that read alike.
-/
namespace Go.Proofs.YtodlejemkihjnaaDoor
open Go.RowKit

/-- Two certificates, variables of one's own. -/
structure TwoC (w : World) (x y z x' y' z' : Value) (W : World) : Prop where
  low : Below w.heap.size w W
  b1 : W.heap[w.heap.size]? = some (.cells #[x, y, z] 25 (0, 0))
  b2 : W.heap[w.heap.size + 1]? = some (.cells #[x', y', z'] 25 (0, 0))
section
variable {w W W' : World} {x y z x' y' z' : Value}
theorem TwoC.start : TwoC w x y z x' y' z' ((w.alloc (.cells #[x, y, z] 25)).alloc (.cells #[x', y', z'] 25)) := by
  have e2 := heap_alloc_new (w.alloc (.cells #[x, y, z] 25)) (.cells #[x', y', z'] 25)
  rw [World.size_alloc] at e2
  refine ⟨((Below.refl _ _).alloc (Nat.le_refl _) _).alloc (by simp) _, ?_, e2⟩
  rw [Below.heap_alloc _ _ _ (by simp)]
  exact heap_alloc_new w _
theorem TwoC.later (h : TwoC w x y z x' y' z' W) (hb : Below W.heap.size W W') : TwoC w x y z x' y' z' W' :=
  ⟨h.low.trans (hb.mono h.low.size), (hb.block _ (lt_of_block h.b1)).trans h.b1, (hb.block _ (lt_of_block h.b2)).trans h.b2⟩
end

set_option maxRecDepth 100000 in
set_option maxHeartbeats 4000000 in
theorem rsame17_yes {w : World} {v v' : Value} {c : Ce.Cert} {ao eo ao' eo' : Option Addr} {ca ce ca' ce' : Nat} (h : Ce.Sees w v c ao eo ca ce) (h' : Ce.Sees w v' c ao' eo' ca' ce') (hf : Ce.Fits c) :
    Calls Tryd.prog 7 #[v, v'] w fun e w' => e = .returned (.bool true) ∧ Below w.heap.size w w' := by
  obtain ⟨pl, ar, es⟩ := c
  have HS := Nu.hid (TwoC.start (w := w) (x := .bool pl) (y := .slice ao ar.length ca) (z := .slice eo es.length ce) (x' := .bool pl) (y' := .slice ao' ar.length ca') (z' := .slice eo' es.length ce'))
  have HE := Nu.hid h.es
  have HE' := Nu.hid h'.es
  have h1 := hf.ar
  have h2 := hf.es
  dsimp only at HE HE' h1 h2
  have HL : Hid (∀ W, Below w.heap.size w W → Calls Tryd.prog 13 #[.slice ao ar.length ca, .slice ao' ar.length ca'] W fun e w' => e = .returned (.bool true) ∧ Below W.heap.size W w') := fun W hW => samelists17 ao ao' ca ca' ar W (h.ar.later hW) (h'.ar.later hW) h1 hf.row
  rw [h.val, h'.val]
  dsimp only
  clear h h' hf
  obtain ⟨n, hn⟩ : ∃ n, ar.length = n := ⟨_, rfl⟩
  obtain ⟨m, hm⟩ : ∃ m, es.length = m := ⟨_, rfl⟩
  have HM := Nu.hid hm
  rw [hn] at HS HL h1 ⊢
  rw [hm] at HS h2 ⊢
  clear hn hm
  have e1 : (pl != pl) = false := by simp
  have e2 : ((m : Int) != (m : Int)) = false := by simp
  obtain ⟨v0, v1, v2, -⟩ := three_cells17 HS.out.b1
  obtain ⟨u0, u1, u2, -⟩ := three_cells17 HS.out.b2
  go_enter Tryd.func7, Tryd.ntmps7
  go_wp2
  go_loopw [5] (fun iv wr => ∃ k : Nat, k ≤ m ∧ iv = .int .i64 (k : Int) ∧ TwoC w (.bool pl) (.slice ao n ca) (.slice eo m ce) (.bool pl) (.slice ao' n ca') (.slice eo' m ce') wr) (fun iv _ => m - (intOf iv).toNat)
  case atStart => exact ⟨0, Nat.zero_le _, rfl, HS.out⟩
  case round =>
    clear v0 v1 v2 u0 u1 u2
    obtain ⟨k, hk, rfl, ht⟩ := hrel
    have HT := Nu.hid ht
    clear ht
    obtain ⟨v0, v1, v2, -⟩ := three_cells17 HT.out.b1
    obtain ⟨u0, u1, u2, -⟩ := three_cells17 HT.out.b2
    by_cases hlt : k < m
    · have hlti : (k : Int) < (m : Int) := by omega
      have k0 : (0 : Int) ≤ (k : Int) := by omega
      obtain ⟨⟨p, q⟩, hp⟩ : ∃ p, es[k]? = some p := ⟨_, List.getElem?_eq_getElem (by have := HM.out; omega)⟩
      obtain ⟨b, o, rfl, c0, c1⟩ := HE.out.later HT.out.low k (p, q) hp
      obtain ⟨b', o', rfl, d0, d1⟩ := HE'.out.later HT.out.low k (p, q) hp
      dsimp only at c0 c1 d0 d1
      clear hp
      go_wp2_with fail
      go_quiet (fail)
      go_wp2
      go_roundw
      case rel => exact ⟨k + 1, by omega, by go_num, HT.out.later (below_drewN (Below.refl _ _) _)⟩
      case measure => simp [intOf]; omega
    · have hlti : ¬ ((k : Int) < (m : Int)) := by omega
      have HC := Nu.hid (HL.out wr HT.out.low)
      go_wp2_with (go_at_call 13; refine HC.out.mono ?_; rintro e w1 ⟨rfl, hb⟩; have HB := Nu.hid (HT.out.later hb); clear hb v0 v1 v2 u0 u1 u2)
      go_ret
      exact ⟨rfl, HB.out.low⟩
end Go.Proofs.YtodlejemkihjnaaDoor
