/-
  What Text answers, and that the fixed fact awake is true.
-/
import Derived.Test.YtcglpafbmekabaaDoorScan
import Derived.Test.YtcglpafbmekabaaDoorShelf
import Derived.Lib.AppendIntMem
import Derived.Lib.ItoaNum
import Derived.Lib.SlBytesConst
namespace Go.Proofs.YtcglpafbmekabaaDoor
open Go.RowKit

/-- The table of the powers of ten reads as its initialiser lays it. -/
def Tab (w : World) : Prop := Lib.TabIs Tryd.prog w "internal/strconv.uint64pow10" .u64 Lib.pow10Tab

theorem Tab.below {w w' : World} (h : Tab w) (hb : Below w.heap.size w w') : Tab w' := Lib.tabBelow_of_tabIs h w' hb

theorem grownBy_grow (w : World) (k : Nat) (os : Array Obj) : w.grownBy (Sort.grow (w.drewN k) os) none :=
  ⟨rfl, rfl, rfl, by simp [Sort.grow, World.drewN], fun i hi _ => by simp [Sort.grow, World.drewN, Array.getElem?_append, hi]⟩

set_option maxHeartbeats 400000 in
theorem text_any (n : Int) (h0 : -9223372036854775808 ≤ n) (h1 : n ≤ 9223372036854775807) (w : World) (ht : Tab w) :
    Calls Tryd.prog 15 #[.int .i64 n] w fun e w' => e = .returned (.string ⟨(Lib.itoa n).toArray⟩) ∧ w.grownBy w' none := by
  go_enter Tryd.func15, Tryd.ntmps15
  go_wp2_with (go_at_call 24; refine (Tryd.strconv_Itoa n h0 h1 _ ht).mono ?_; rintro e w' ⟨rfl, k, os, rfl⟩)
  go_ret
  exact ⟨rfl, grownBy_grow w k os⟩

def gA : Nat → Int := fun i => [51, 48, 32, 50, 10].getD i 0
def gB : Nat → Int := fun i => [49, 50, 120].getD i 0

theorem scanA : Nu.scan gA 5 = .ok [⟨1, 0, 2, 30⟩, ⟨1, 3, 4, 2⟩, ⟨2, 4, 5, 0⟩, ⟨3, 5, 5, 0⟩] := by rfl
theorem scanB : Nu.scan gB 3 = .error (2, 11) := by rfl
theorem itoa70 : Lib.itoa (-70) = [45, 55, 48] := by decide +kernel

set_option maxHeartbeats 2000000 in
theorem awake_any (w : World) (ht : Tab w) :
    Calls Tryd.prog 9 #[] w fun e w' => e = .returned (.bool true) ∧ Below w.heap.size w w' := by
  have kc := fun (w : World) (C : Array Value) (n c : Nat) => Lib.run_convert_bytes_const (P := Tryd.prog) w 22 5 C n c Tryd.underlying22 Tryd.underlying5
  have hA : HasText (w.alloc (.cells #[.int .u8 51, .int .u8 48, .int .u8 32, .int .u8 50, .int .u8 10] 5 (5, 6))) (some ⟨w.heap.size, 0, none⟩) 5 gA := fun i hi => by
    rcases (show i = 0 ∨ i = 1 ∨ i = 2 ∨ i = 3 ∨ i = 4 by omega) with rfl | rfl | rfl | rfl | rfl
    all_goals exact ⟨by decide, _, _, rfl, by rw [cell_of_row _ _ _ _ _ _ (heap_alloc_new w _)]; rfl⟩
  have HA := Nu.hid hA
  clear hA
  have HTAB := Nu.hid ht
  clear ht
  go_enter Tryd.func9, Tryd.ntmps9
  go_wp2_with (go_at_call 10; refine (scan_any _ 5 5 gA _ HA.out (by intro x hx; cases hx; simp) (by decide) (by decide)).mono ?_; refine Hid.out ?_)
  refine Nu.hid ?_
  rintro e w1 ⟨hb1, hx⟩
  rcases hx with ⟨h, _⟩ | ⟨_, x, hs, _⟩ | ⟨_, ts, T, hs, rfl, hT, hrow⟩
  · omega
  · rw [scanA] at hs; cases hs
  rw [scanA] at hs
  cases hs
  have hbw1 : Below w.heap.size w w1 := ((Below.refl _ _).alloc (Nat.le_refl _) _).trans (hb1.mono (by simp))
  obtain ⟨arr, har, hasz, hac⟩ := hrow
  have HB1 := Nu.hid hbw1
  have HAR := Nu.hid har
  have HAC := Nu.hid hac
  clear hbw1 har hac hb1 hasz
  have hB : HasText (w1.alloc (.cells #[.int .u8 49, .int .u8 50, .int .u8 120] 5 (3, 4))) (some ⟨w1.heap.size, 0, none⟩) 3 gB := fun i hi => by
    rcases (show i = 0 ∨ i = 1 ∨ i = 2 by omega) with rfl | rfl | rfl
    all_goals exact ⟨by decide, _, _, rfl, by rw [cell_of_row _ _ _ _ _ _ (heap_alloc_new w1 _)]; rfl⟩
  have HBT := Nu.hid hB
  clear hB
  go_wp2_with (go_at_call 10; refine (scan_any _ 3 3 gB _ HBT.out (by intro x hx; cases hx; simp) (by decide) (by decide)).mono ?_; refine Hid.out ?_)
  refine Nu.hid ?_
  rintro e w2 ⟨hb2, hx⟩
  rcases hx with ⟨h, _⟩ | ⟨_, x, hs, rfl⟩ | ⟨_, ts, T, hs, _⟩
  · omega
  rotate_left
  · rw [scanB] at hs; cases hs
  rw [scanB] at hs
  cases hs
  have hTl := lt_of_block HAR.out
  have har2 : w2.heap[T]? = some (.cells arr 39 (0, 0)) := by
    rw [hb2.block T (by simp; omega), Below.heap_alloc _ _ _ hTl]
    exact HAR.out
  have hb02 : Below w.heap.size w w2 := (HB1.out.alloc (HB1.out.size) _).trans (hb2.mono (by have := HB1.out.size; simp; omega))
  have htab2 := HTAB.out.below hb02
  have c0 : w2.cell? ⟨T, 0, none⟩ = some (.int .i64 1) := (cell_of_row w2 T 0 _ _ _ har2).trans (HAC.out 0 _ rfl).1
  have c1 : w2.cell? ⟨T, 1, none⟩ = some (.int .i64 0) := (cell_of_row w2 T 1 _ _ _ har2).trans (HAC.out 0 _ rfl).2.1
  have c2 : w2.cell? ⟨T, 2, none⟩ = some (.int .i64 2) := (cell_of_row w2 T 2 _ _ _ har2).trans (HAC.out 0 _ rfl).2.2.1
  have c3 : w2.cell? ⟨T, 3, none⟩ = some (.int .i64 30) := (cell_of_row w2 T 3 _ _ _ har2).trans (HAC.out 0 _ rfl).2.2.2
  have c8 : w2.cell? ⟨T, 8, none⟩ = some (.int .i64 2) := (cell_of_row w2 T 8 _ _ _ har2).trans (HAC.out 2 _ rfl).1
  have HT2 := Nu.hid htab2
  have HB2 := Nu.hid hb02
  clear hb02 htab2 har2 hb2 HAR HAC kc
  go_wp2_with (go_at_call 15; refine (text_any (-70) (by decide) (by decide) _ HT2.out).mono ?_; rw [itoa70]; refine Hid.out ?_)
  refine Nu.hid ?_
  rintro e w3 ⟨rfl, hg3⟩
  have HB3 := Nu.hid (HB2.out.trans ((Below_of_grown hg3).mono HB2.out.size))
  clear hg3
  go_wp2
  go_ret
  exact ⟨by simp, HB3.out⟩

end Go.Proofs.YtcglpafbmekabaaDoor
