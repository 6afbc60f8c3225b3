/-
  What Scan answers, of any bytes: the tokens in new memory, or the first fault's place and number, or that the bytes are too many.
-/
import Derived.Test.YtmgjfakdjponoabDoorCatch
namespace Go.Proofs.YtmgjfakdjponoabDoor
open Go.RowKit

def ScanPost (n : Nat) (g : Nat → Int) (w : World) (e : Ending) (w' : World) : Prop :=
  Below w.heap.size w w' ∧
  ((33554432 < n ∧ e = .returned (.tuple #[.slice none 0 0, .int .i64 33554432, .int .i64 10])) ∨
   (n ≤ 33554432 ∧ ∃ x, Nu.scan g n = .error x ∧ e = .returned (.tuple #[.slice none 0 0, .int .i64 x.1, .int .i64 x.2])) ∨
   (n ≤ 33554432 ∧ ∃ ts T, Nu.scan g n = .ok ts ∧ e = .returned (.tuple #[.slice (some ⟨T, 0, none⟩) ts.length ts.length, .int .i64 0, .int .i64 0]) ∧ w.heap.size ≤ T ∧ RowToks w' T ts.length ts))

theorem Below_of_grown {w w' : World} (h : w.grownBy w' none) : Below w.heap.size w w' := ⟨h.os, h.tape, h.output, h.size, fun k hk => h.block k hk (by simp)⟩

theorem res_new (w : World) (s : Value) (a c : Int) : Res (((w.alloc (.cells #[s] 88)).alloc (.cells #[.int .i64 a] 3)).alloc (.cells #[.int .i64 c] 29)) w.heap.size s a c := by
  refine ⟨?_, ?_, ?_⟩
  · rw [Below.heap_alloc _ _ _ (by simp; omega), Below.heap_alloc _ _ _ (by simp)]
    exact heap_alloc_new w _
  · rw [Below.heap_alloc _ _ _ (by simp)]
    have := heap_alloc_new (w.alloc (.cells #[s] 88)) (.cells #[.int .i64 a] 3)
    simpa using this
  · have := heap_alloc_new ((w.alloc (.cells #[s] 88)).alloc (.cells #[.int .i64 a] 3)) (.cells #[.int .i64 c] 29)
    simpa using this

theorem results_scan (tmps : Array Value) (W : World) (A : Nat) (s : Value) (a c : Int) (h2 : tmps.getD 2 undef = .pointer (some ⟨A, 0, none⟩)) (h3 : tmps.getD 3 undef = .pointer (some ⟨A + 1, 0, none⟩)) (h4 : tmps.getD 4 undef = .pointer (some ⟨A + 2, 0, none⟩)) (hr : Res W A s a c) :
    (results Tryd.f44 tmps).run Tryd.prog W = .ok (.tuple #[s, .int .i64 a, .int .i64 c]) W := by
  have c0 := cell_of_one hr.toks
  have c1 := cell_of_one hr.place
  have c2 := cell_of_one hr.code
  have k2 : tmps[2]?.getD undef = .pointer (some ⟨A, 0, none⟩) := by simpa using h2
  have k3 : tmps[3]?.getD undef = .pointer (some ⟨A + 1, 0, none⟩) := by simpa using h3
  have k4 : tmps[4]?.getD undef = .pointer (some ⟨A + 2, 0, none⟩) := by simpa using h4
  simp [results, Tryd.results44, go_sem, k2, k3, k4, c0, c1, c2]

set_option maxHeartbeats 2000000 in
theorem scan_any (ao : Option Addr) (n cap : Nat) (g : Nat → Int) (w : World) (ht : HasText w ao n g) (hao : ∀ x, ao = some x → x.block < w.heap.size) (hn : n ≤ maxLen) (hcap : n ≤ cap) :
    Calls Tryd.prog 44 #[.slice ao n cap] w (ScanPost n g w) := by
  unfold maxLen at hn
  have hmf : ∀ (fn : Fn) (first cap : Array Value) (w : World), (Instr.makeFunc fn first cap).run Tryd.prog w = .ok (.func fn first cap) w := fun _ _ _ _ => rfl
  by_cases hA : 33554432 < n
  · have j0 : (33554432 : Int) < (n : Int) := by omega
    go_enter_defers Tryd.func44, Tryd.ntmps44
    go_wp2
    have hres : Res (((w.alloc (.cells #[.slice none 0 0] 88)).alloc (.cells #[.int .i64 33554432] 3)).alloc (.cells #[.int .i64 10] 29)) w.heap.size (.slice none 0 0) 33554432 10 := res_new w _ _ _
    refine ⟨_, results_scan _ _ w.heap.size _ _ _ rfl rfl rfl hres, ?_, .inl ⟨hA, rfl⟩⟩
    exact (((Below.refl _ _).alloc (Nat.le_refl _) _).alloc (by simp) _).alloc (by simp; omega) _
  · have j0 : ¬ ((33554432 : Int) < (n : Int)) := by omega
    go_enter_defers Tryd.func44, Tryd.ntmps44
    have hres := res_new w (.slice none 0 0) 0 0
    have hg0 : w.grownBy (((w.alloc (.cells #[.slice none 0 0] 88)).alloc (.cells #[.int .i64 0] 3)).alloc (.cells #[.int .i64 0] 29)) none := grownBy_alloc' (grownBy_alloc' (World.grownBy_alloc w _ none) _) _
    have ht0 := ht.grown0 hg0
    have hsz : (((w.alloc (.cells #[.slice none 0 0] 88)).alloc (.cells #[.int .i64 0] 3)).alloc (.cells #[.int .i64 0] 29)).heap.size = w.heap.size + 3 := by simp
    have HS := Nu.hid hsz
    have HG0 := Nu.hid hg0
    have HT0 := Nu.hid ht0
    have HRES := Nu.hid hres
    clear hsz hg0 ht0 hres ht
    go_wp2_with fail
    refine (count_any ao n cap g _ HT0.out (fun x hx => by rw [HS.out]; have := hao x hx; omega) (by omega) hcap).mono ?_
    rintro e w1 ⟨hg1, hx⟩
    have hres1 := HRES.out.grown hg1
    have hb1 : Below w.heap.size w w1 := Below_of_grown (grownBy_trans HG0.out hg1)
    have hs1 : w.heap.size + 3 ≤ w1.heap.size := by rw [← HS.out]; exact hg1.size
    rcases hx with ⟨ts, hsc, rfl⟩ | ⟨x, hsc, rfl⟩
    · have ht1 := HT0.out.grown0 hg1
      have HT1 := Nu.hid ht1
      have HR1 := Nu.hid hres1
      have HB1 := Nu.hid hb1
      have HSC := Nu.hid hsc
      clear ht1 hres1 hb1 hg1 hsc
      go_wp2_with (go_at_call 60; refine (gather_any ao n cap g ts _ HT1.out (fun x hx => by have := hao x hx; omega) (by omega) hcap HSC.out).mono ?_; refine Hid.out ?_)
      refine Nu.hid ?_
      rintro e w2 ⟨T, rfl, hT, hrow, hg2⟩
      have hres2 := HR1.out.grown hg2
      have c0 := cell_of_one hres2.toks
      have c1 := cell_of_one hres2.place
      have c2 := cell_of_one hres2.code
      have f0 := free_of_one hres2.toks
      have f1 := free_of_one hres2.place
      have f2 := free_of_one hres2.code
      have HR2 := Nu.hid hres2
      have HROW := Nu.hid hrow
      have HB2 := Nu.hid (HB1.out.trans ((Below_of_grown hg2).mono (by omega)))
      clear hres2 hrow hg2
      go_wp2
      have hput : RowToks (put3 w2 w.heap.size (.slice (some ⟨T, 0, none⟩) ts.length ts.length) 0 0) T ts.length ts := by
        obtain ⟨arr, h1, h2⟩ := HROW.out
        exact ⟨arr, (put3_other _ _ _ _ _ T (.inr (by omega))).trans h1, h2⟩
      refine leaves_cons (f := 59) (args := #[.pointer (some ⟨w.heap.size, 0, none⟩), .pointer (some ⟨w.heap.size + 1, 0, none⟩), .pointer (some ⟨w.heap.size + 1 + 1, 0, none⟩)]) (by simp) (by simp [go_sem]) ?_
      refine (catch_idle _ _ _ _).mono ?_
      rintro e u' w3 ⟨rfl, rfl, rfl⟩
      exact ⟨_, results_scan _ _ w.heap.size _ _ _ rfl rfl rfl (HR2.out.put3 (s' := .slice (some ⟨T, 0, none⟩) ts.length ts.length) (a' := 0) (c' := 0)), HB2.out.trans (put3_below _ _ _ _ _), .inr (.inr ⟨by omega, ts, T, HSC.out, rfl, by omega, hput⟩)⟩
    · refine leaves_cons (f := 59) (args := #[.pointer (some ⟨w.heap.size, 0, none⟩), .pointer (some ⟨w.heap.size + 1, 0, none⟩), .pointer (some ⟨w.heap.size + 1 + 1, 0, none⟩)]) (by simp) (by simp [go_sem]) ?_
      refine (catch_fault w.heap.size _ _ _ x w1 hres1).mono ?_
      rintro e u' w3 ⟨rfl, rfl, hres3, hb3⟩
      exact ⟨_, results_scan _ _ w.heap.size _ _ _ rfl rfl rfl hres3, hb1.trans hb3, .inr (.inl ⟨by omega, x, hsc, rfl⟩)⟩

end Go.Proofs.YtmgjfakdjponoabDoor
