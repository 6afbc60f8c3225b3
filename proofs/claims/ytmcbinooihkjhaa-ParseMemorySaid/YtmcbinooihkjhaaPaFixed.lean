/-
  That the fixed fact of the statements of layer 2 is true.
-/
import Derived.Test.YtmcbinooihkjhaaPaEq
import Derived.Lib.SlBytesConst
namespace Go.Proofs.Ytmcbinooihkjhaa
open Go.RowKit

namespace Pa
def gA : Nat → Int := fun i => [51, 32, 50, 10, 48, 32, 49, 10, 50, 32, 50, 10].getD i 0
def gB : Nat → Int := fun i => [51, 32, 49, 10, 48, 32, 51, 10].getD i 0
def gC : Nat → Int := fun i => [48, 32, 48].getD i 0
theorem rawA : raw gA 12 = .ok ⟨true, 3, 2, [(0, 1), (2, 2)]⟩ := by rfl
theorem rawB : raw gB 8 = .error (24, 6) := by rfl
theorem rawC : raw gC 3 = .ok ⟨true, 0, 0, []⟩ := by rfl
end Pa

/-- A text that a literal lays. -/
theorem lit_text (w : World) (k : Nat) (hk : w.heap.size = k) (zs : List Int) (f : Nat × Nat) (hz : ∀ z ∈ zs, 0 ≤ z ∧ z ≤ 255) :
    HasText (w.alloc (.cells (zs.map (Value.int .u8)).toArray 5 f)) (some ⟨k, 0, none⟩) zs.length (fun i => zs.getD i 0) := fun i hi => by
  subst hk
  refine ⟨?_, _, _, rfl, ?_⟩
  · refine hz _ ?_
    show zs.getD i 0 ∈ zs
    rw [List.getD_eq_getElem?_getD, List.getElem?_eq_getElem hi]
    simp
  · rw [Nat.zero_add, cell_of_row _ _ i _ _ _ (heap_alloc_new w _)]
    simp [List.getD_eq_getElem?_getD, hi]

theorem kept3 {w1 w2 : World} {A B C : Obj} (hb : Below (((w1.alloc A).alloc B).alloc C).heap.size (((w1.alloc A).alloc B).alloc C) w2) :
    w2.heap[w1.heap.size]? = some A ∧ w2.heap[w1.heap.size + 1]? = some B ∧ Below w1.heap.size w1 w2 := by
  refine ⟨?_, ?_, ?_⟩
  · rw [hb.block _ (by simp; omega), Below.heap_alloc _ _ _ (by simp; omega), Below.heap_alloc _ _ _ (by simp)]
    exact heap_alloc_new w1 A
  · rw [hb.block _ (by simp), Below.heap_alloc _ _ _ (by simp)]
    have := heap_alloc_new (w1.alloc A) B
    rwa [World.size_alloc] at this
  · exact ((((Below.refl _ _).alloc (Nat.le_refl _) _).alloc (by simp) _).alloc (by simp; omega) _).trans (hb.mono (by simp; omega))

set_option maxRecDepth 100000 in
set_option maxHeartbeats 4000000 in
theorem fixed_any (w : World) :
    Calls Try.prog 4 #[] w fun e w' => e = .returned (.bool true) ∧ Below w.heap.size w w' := by
  have kc := fun (w : World) (C : Array Value) (n c : Nat) => Lib.run_convert_bytes_const (P := Try.prog) w 22 5 C n c Try.underlying22 Try.underlying5
  have eqP := eqPair
  have eqR := eqReject
  have EQP := Nu.hid eqP
  have EQR := Nu.hid eqR
  clear eqP eqR
  go_enter Try.func4, Try.ntmps4
  go_wp2_with (go_at_call 6; refine (raw_any _ 12 12 Pa.gA _ (lit_text w _ rfl [51, 32, 50, 10, 48, 32, 49, 10, 50, 32, 50, 10] _ (by decide)) (by intro x hx; cases hx; simp) (by decide) (by decide)).mono ?_; refine Hid.out ?_)
  refine Nu.hid ?_
  rintro e w1 ⟨hb1, hx⟩
  rcases hx with ⟨x, hr, _⟩ | ⟨s, v, hr, rfl, hop⟩
  · rw [Pa.rawA] at hr; cases hr
  rw [Pa.rawA] at hr
  cases hr
  obtain ⟨va, vc, rfl, hpx⟩ := hop.at
  obtain ⟨P, rfl, p0, p1⟩ := hpx 1 (2, 2) rfl
  have hPl : P < w1.heap.size := block_lt_of_cell p0
  have hbw1 : Below w.heap.size w w1 := ((Below.refl _ _).alloc (Nat.le_refl _) _).trans (hb1.mono (by simp))
  have HB1 := Nu.hid hbw1
  unfold rawVal rejVal
  dsimp only at p0 p1 ⊢
  clear hb1 hop hpx hbw1
  have KC := Nu.hid kc
  clear kc
  have kc2 : ∀ (A B : Obj) (C : Array Value) (n c : Nat), (convert 22 22 (.slice (some ⟨w1.heap.size + 1 + 1, 0, none⟩) n c)).run Try.prog (((w1.alloc A).alloc B).alloc (.cells C 5)) = .ok (.slice (some ⟨w1.heap.size + 1 + 1, 0, none⟩) n c) (((w1.alloc A).alloc B).alloc (.cells C 5 (C.size, C.size + 1))) := fun A B C n c => by
    have := KC.out ((w1.alloc A).alloc B) C n c
    rw [World.size_alloc, World.size_alloc] at this
    exact this
  go_wp2_with (go_at_call 6; refine (raw_any _ 8 8 Pa.gB _ (lit_text _ _ (by simp) [51, 32, 49, 10, 48, 32, 51, 10] _ (by decide)) (by intro x hx; cases hx; simp) (by decide) (by decide)).mono ?_; refine Hid.out ?_)
  refine Nu.hid ?_
  rintro e w2 ⟨hb2, hx⟩
  rcases hx with ⟨x, hr, rfl⟩ | ⟨s, v, hr, _⟩
  rotate_left
  · rw [Pa.rawB] at hr; cases hr
  rw [Pa.rawB] at hr
  cases hr
  obtain ⟨k1, k2, k3⟩ := kept3 hb2
  have hs2 : w1.heap.size + 1 < w2.heap.size := lt_of_block k2
  have P0 : w2.cell? ⟨P, 2, none⟩ = some (.int .i64 2) := (k3.cell (p := ⟨P, 2, none⟩) hPl).trans p0
  have P1 : w2.cell? ⟨P, 3, none⟩ = some (.int .i64 2) := (k3.cell (p := ⟨P, 3, none⟩) hPl).trans p1
  obtain ⟨c0, c1, _⟩ := two_cells k1
  obtain ⟨d0, d1, _⟩ := two_cells k2
  clear k1 k2
  have q0 : P < w2.heap.size := by omega
  have q1 : w1.heap.size < w2.heap.size := by omega
  have q2 : w1.heap.size + 1 < w2.heap.size := by omega
  have HB2 := Nu.hid (HB1.out.trans (k3.mono HB1.out.size))
  have hw2 : w.heap.size ≤ w2.heap.size := HB2.out.size
  unfold rawVal rejVal
  clear k3 hb2 p0 p1 kc2
  have kc3 : ∀ (A B : Obj) (C : Array Value) (n c : Nat), (convert 22 22 (.slice (some ⟨w2.heap.size + 1 + 1, 0, none⟩) n c)).run Try.prog (((w2.alloc A).alloc B).alloc (.cells C 5)) = .ok (.slice (some ⟨w2.heap.size + 1 + 1, 0, none⟩) n c) (((w2.alloc A).alloc B).alloc (.cells C 5 (C.size, C.size + 1))) := fun A B C n c => by
    have := KC.out ((w2.alloc A).alloc B) C n c
    rw [World.size_alloc, World.size_alloc] at this
    exact this
  have eqP := EQP.out
  have eqR := EQR.out
  go_wp2_with (go_at_call 8; refine (accepts_any _ 3 3 Pa.gC _ (lit_text _ _ (by simp) [48, 32, 48] _ (by decide)) (by intro x hx; cases hx; simp) (by decide) (by decide)).mono ?_; rw [Pa.rawC]; rintro e w3 ⟨rfl, hb3⟩; have HB3 := Nu.hid hb3; clear hb3)
  go_ret
  refine ⟨by simp [Pa.okB], ?_⟩
  exact (((HB2.out.alloc hw2 _).alloc (by simp; omega) _).alloc (by simp; omega) _).trans (HB3.out.mono (by simp; omega))

end Go.Proofs.Ytmcbinooihkjhaa
