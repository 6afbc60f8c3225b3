/-
  What Raw and Accepts answer, of any bytes.
-/
import Derived.Test.YtmgjfakdjponoabDoorPaRead
namespace Go.Proofs.YtmgjfakdjponoabDoor
open Go.RowKit

theorem RowToks.line {w : World} {T m : Nat} {us : List Nu.Tok} (h : RowToks w T m us) : LineAt w T 0 us := fun j t hj => by
  obtain ⟨arr, har, _, hac⟩ := h
  obtain ⟨h0, h1, h2, h3⟩ := hac j t hj
  rw [Nat.zero_add]
  exact ⟨(cell_of_row w T _ _ _ _ har).trans h0, (cell_of_row w T _ _ _ _ har).trans h1, (cell_of_row w T _ _ _ _ har).trans h2, (cell_of_row w T _ _ _ _ har).trans h3⟩

/-- The two results, as they were made. -/
structure Two (w w1 : World) : Prop where
  bel : Below w.heap.size w w1
  res : w1.heap[w.heap.size]? = some (.cells #[.int .i64 0, .slice none 0 0] 67 (0, 0))
  rej : w1.heap[w.heap.size + 1]? = some (.cells #[.int .i64 0, .int .i64 0] 41 (0, 0))

theorem Two.new (w : World) : Two w ((w.alloc (.cells #[.int .i64 0, .slice none 0 0] 67)).alloc (.cells #[.int .i64 0, .int .i64 0] 41)) := by
  refine ⟨((Below.refl _ _).alloc (Nat.le_refl _) _).alloc (by simp) _, ?_, ?_⟩
  · rw [Below.heap_alloc _ _ _ (by simp)]
    exact heap_alloc_new w _
  · have := heap_alloc_new (w.alloc (.cells #[.int .i64 0, .slice none 0 0] 67)) (.cells #[.int .i64 0, .int .i64 0] 41)
    simpa using this
theorem Two.size {w w1 : World} (h : Two w w1) : w.heap.size + 2 ≤ w1.heap.size := lt_of_block h.rej
theorem Two.below {w w1 w2 : World} (h : Two w w1) (hb : Below w1.heap.size w1 w2) : Two w w2 :=
  ⟨h.bel.trans (hb.mono (by have := h.size; omega)), (hb.block _ (lt_of_block h.res)).trans h.res, (hb.block _ (lt_of_block h.rej)).trans h.rej⟩
theorem Two.cells {w wr : World} (h : Two w wr) : (wr.cell? ⟨w.heap.size, 0, none⟩ = some (.int .i64 0) ∧ wr.cell? ⟨w.heap.size, 1, none⟩ = some (.slice none 0 0) ∧ ∀ i, wr.frozen? ⟨w.heap.size, i, none⟩ = false) ∧
    (wr.cell? ⟨w.heap.size + 1, 0, none⟩ = some (.int .i64 0) ∧ wr.cell? ⟨w.heap.size + 1, 1, none⟩ = some (.int .i64 0) ∧ ∀ i, wr.frozen? ⟨w.heap.size + 1, i, none⟩ = false) := ⟨two_cells h.res, two_cells h.rej⟩

set_option maxRecDepth 100000 in
set_option maxHeartbeats 2000000 in
theorem raw_any (ao : Option Addr) (n cap : Nat) (g : Nat → Int) (w : World) (ht : HasText w ao n g) (hao : ∀ x, ao = some x → x.block < w.heap.size) (hn : n ≤ maxLen) (hcap : n ≤ cap) :
    Calls Tryd.prog 30 #[.slice ao n cap] w (RawPost (Pa.raw g n) w) := by
  have hn' := hn
  unfold maxLen at hn'
  by_cases hA : 16777216 < n
  · have j0 : (16777216 : Int) < (n : Int) := by omega
    have hraw : Pa.raw g n = .error (10, 16777216) := by unfold Pa.raw; rw [if_pos hA]
    have HRAW := Nu.hid hraw
    clear hraw
    go_enter Tryd.func30, Tryd.ntmps30
    go_wp2
    refine bodyPost_ret (v := .tuple #[rawVal 0 (.slice none 0 0), rejVal (10, 16777216)]) (by simp [results, Tryd.results30, go_sem, rawVal, rejVal]) rfl ⟨?_, .inl ⟨(10, 16777216), HRAW.out, rfl⟩⟩
    exact ((Below.refl _ _).alloc (Nat.le_refl _) _).alloc (by simp) _
  · have j0 : ¬ ((16777216 : Int) < (n : Int)) := by omega
    have hb0 : Below w.heap.size w ((w.alloc (.cells #[.int .i64 0, .slice none 0 0] 67)).alloc (.cells #[.int .i64 0, .int .i64 0] 41)) := ((Below.refl _ _).alloc (Nat.le_refl _) _).alloc (by simp) _
    have HT0 := Nu.hid (ht.below hb0 hao)
    have HB0 := Nu.hid hb0
    clear ht hb0
    go_enter Tryd.func30, Tryd.ntmps30
    go_wp2_with (go_at_call 44; refine (scan_any ao n cap g _ HT0.out (fun x hx => by have := hao x hx; simp; omega) hn hcap).mono ?_; refine Hid.out ?_)
    refine Nu.hid ?_
    rintro e w1 ⟨hb1, hx⟩
    have two1 := (Two.new w).below hb1
    have hbw1 := two1.bel
    obtain ⟨⟨r0, r1, r2⟩, ⟨s0, s1, s2⟩⟩ := two1.cells
    have hz := two1.size
    have TWO1 := Nu.hid two1
    clear two1
    have q0 : w.heap.size < w1.heap.size := by omega
    have q1 : w.heap.size + 1 < w1.heap.size := by omega
    have HBW1 := Nu.hid hbw1
    clear hbw1 hb1
    rcases hx with ⟨h, _⟩ | ⟨_, x, hs, rfl⟩ | ⟨_, ts, T, hs, rfl, hT, hrow⟩
    · omega
    · have hraw : Pa.raw g n = .error (x.2, x.1) := by unfold Pa.raw; rw [if_neg hA, hs]
      have hcode := Nu.scan_code hs
      have jx : (x.2 != 0) = true := by simp; omega
      have HRAW := Nu.hid hraw
      clear hraw hs hcode
      go_wp2
      refine bodyPost_ret (v := .tuple #[rawVal 0 (.slice none 0 0), rejVal (x.2, x.1)]) (by simp [results, Tryd.results30, go_sem, rawVal, rejVal, *]) rfl ⟨?_, .inl ⟨(x.2, x.1), HRAW.out, rfl⟩⟩
      exact (((HBW1.out.setCell (by simp) _).setCell (by simp) _).setCell (by simp) _).setCell (by simp) _
    · have hraw : Pa.raw g n = Pa.go Pa.s0 (Pa.lns [] ts) n := by unfold Pa.raw; rw [if_neg hA, hs]; rfl
      obtain ⟨us0, hus, hk⟩ := Pa.scan_shape hs
      have hlen := Nu.scan_length hs
      have HL := Nu.hid hrow.line
      have hTl : T < w1.heap.size := by obtain ⟨arr, har, _⟩ := hrow; exact lt_of_block har
      have HRAW := Nu.hid hraw
      have HUS := Nu.hid hus
      have HK := Nu.hid hk
      clear hraw hs hrow hus hk
      go_wp2_with (go_at_call 45; refine (read_any T _ n ts us0 _ HL.out hTl (by omega) (Nat.le_refl _) HUS.out HK.out).mono ?_; refine Hid.out ?_)
      refine Nu.hid ?_
      rintro e w2 ⟨hb2, hx⟩
      obtain ⟨⟨r0, r1, r2⟩, ⟨s0, s1, s2⟩⟩ := (TWO1.out.below hb2).cells
      have HBW2 := Nu.hid (HBW1.out.trans (hb2.mono (by omega)))
      clear hb2
      unfold rawVal rejVal at hx
      rcases hx with ⟨x, hr, rfl⟩ | ⟨s, v, hr, rfl, hop⟩
      · have HR := Nu.hid hr
        clear hr
        go_wp2
        refine bodyPost_ret (v := .tuple #[rawVal 0 (.slice none 0 0), rejVal x]) (by simp [results, Tryd.results30, go_sem, rawVal, rejVal, *]) rfl ⟨?_, .inl ⟨x, HRAW.out.trans HR.out, rfl⟩⟩
        exact (((HBW2.out.setCell (by simp) _).setCell (by simp) _).setCell (by simp) _).setCell (by simp) _
      · have HR := Nu.hid hr
        clear hr
        obtain ⟨va, vc, rfl, _⟩ := hop.form
        have HOP := Nu.hid hop
        clear hop
        go_wp2
        refine bodyPost_ret (v := .tuple #[rawVal s.n (.slice va s.pairs.length vc), rejVal (0, 0)]) (by simp [results, Tryd.results30, go_sem, rawVal, rejVal, *]) rfl ⟨?_, .inr ⟨s, _, HRAW.out.trans HR.out, rfl, ?_⟩⟩
        · exact (((HBW2.out.setCell (by simp) _).setCell (by simp) _).setCell (by simp) _).setCell (by simp) _
        · exact ((((HOP.out.low (by omega) 0 _).low (by omega) 1 _).low (by omega) 0 _).low (by omega) 1 _).base (by omega)

end Go.Proofs.YtmgjfakdjponoabDoor
