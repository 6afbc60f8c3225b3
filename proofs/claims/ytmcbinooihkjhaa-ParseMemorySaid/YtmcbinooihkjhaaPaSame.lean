/-
  That the same is found the same: what was read, and what the document tells.
-/
import Derived.Test.YtmcbinooihkjhaaPaRef
import Derived.Test.YtmcbinooihkjhaaPaEq
namespace Go.Proofs.Ytmcbinooihkjhaa
open Go.RowKit

/-- v is a list of the numbers zs. -/
def IntsAt (w : World) (v : Value) (zs : List Int) : Prop := ∃ ao cap, v = .slice ao zs.length cap ∧ ∀ (j : Nat) (z : Int), zs[j]? = some z → ∃ P : Nat, ao = some ⟨P, 0, none⟩ ∧ w.cell? ⟨P, j, none⟩ = some (.int .i64 z)

theorem OwnInts.at {w : World} {B : Nat} {v : Value} {zs : List Int} (h : OwnInts w B v zs) : IntsAt w v zs := by
  have h' := h
  unfold OwnInts at h'
  rcases h.2 with ⟨rfl, h0⟩ | ⟨g, cap, cur, rfl, _⟩
  · refine ⟨none, 0, by rw [h0], fun j p hj => ?_⟩
    rw [List.length_eq_zero_iff.1 h0] at hj
    simp at hj
  · refine ⟨_, cap, rfl, fun j p hj => ⟨g, rfl, ?_⟩⟩
    have hc := World.ownsRow.cells h' (g := g) rfl
    simp only [addr0] at hc
    exact hc j _ (by rw [List.getElem?_map, hj]; rfl)

theorem IntsAt.below {w w' : World} {B : Nat} {v : Value} {zs : List Int} (h : IntsAt w v zs) (hb : Below B w w') (hB : w.heap.size ≤ B) : IntsAt w' v zs := by
  obtain ⟨ao, cap, rfl, hx⟩ := h
  refine ⟨ao, cap, rfl, fun j p hj => ?_⟩
  obtain ⟨P, ha, h0⟩ := hx j p hj
  have hl := block_lt_of_cell h0
  simp at hl
  exact ⟨P, ha, (hb.cell (p := ⟨P, j, none⟩) (show P < B by omega)).trans h0⟩

set_option maxRecDepth 100000 in
set_option maxHeartbeats 2000000 in
theorem psame_any (n : Int) (v U V : Value) (x : Int × Int) (ps : List (Int × Int)) (w : World) (hv : PairsAt w v ps) (hU : IntsAt w U (ps.map Prod.fst)) (hV : IntsAt w V (ps.map Prod.snd)) (hl : ps.length ≤ 4611686018427387904) :
    Calls Try.prog 7 #[rawVal n v, rejVal x, toldVal n U V x.1 x.2] w fun e w' => e = .returned (.bool true) ∧ Below w.heap.size w w' := by
  have hbw : Below w.heap.size w (((w.alloc (.cells #[.int .i64 n, v] 31)).alloc (.cells #[.int .i64 x.1, .int .i64 x.2] 34)).alloc (.cells #[.int .i64 n, U, V, .int .i64 x.1, .int .i64 x.2] 26)) := (((Below.refl _ _).alloc (Nat.le_refl _) _).alloc (by simp) _).alloc (by simp; omega) _
  obtain ⟨va, vc, rfl, hvx⟩ := hv
  obtain ⟨ua, uc, rfl, hux⟩ := hU
  obtain ⟨wa, wc, rfl, hwx⟩ := hV
  rw [List.length_map, List.length_map]
  rw [List.length_map] at hbw
  rw [List.length_map] at hbw
  unfold rawVal rejVal toldVal
  have j0 : (x.1 != x.1) = false := by simp
  have j1 : (x.2 != x.2) = false := by simp
  have j2 : (n != n) = false := by simp
  have j3 : ((ps.length : Int) != (ps.length : Int)) = false := by simp
  have HVX := Nu.hid hvx
  have HUX := Nu.hid hux
  have HWX := Nu.hid hwx
  have HBW := Nu.hid hbw
  clear hvx hux hwx hbw
  go_enter Try.func7, Try.ntmps7
  go_wp2_with fail
  generalize hX : (((w.alloc (.cells #[.int .i64 n, .slice va ps.length vc] 31)).alloc (.cells #[.int .i64 x.1, .int .i64 x.2] 34)).alloc (.cells #[.int .i64 n, .slice ua ps.length uc, .slice wa ps.length wc, .int .i64 x.1, .int .i64 x.2] 26)) = X
  have x1 : X.cell? ⟨w.heap.size, 1, none⟩ = some (.slice va ps.length vc) := by
    rw [← hX]
    refine (two_cells (a := .int .i64 n) (t := 31) ?_).2.1
    rw [Below.heap_alloc _ _ _ (by simp; omega), Below.heap_alloc _ _ _ (by simp)]
    exact heap_alloc_new w _
  have x2 : X.heap[w.heap.size + 1 + 1]? = some (.cells #[.int .i64 n, .slice ua ps.length uc, .slice wa ps.length wc, .int .i64 x.1, .int .i64 x.2] 26 (0, 0)) := by
    rw [← hX]
    have := heap_alloc_new ((w.alloc (.cells #[.int .i64 n, .slice va ps.length vc] 31)).alloc (.cells #[.int .i64 x.1, .int .i64 x.2] 34)) (.cells #[.int .i64 n, .slice ua ps.length uc, .slice wa ps.length wc, .int .i64 x.1, .int .i64 x.2] 26)
    rw [World.size_alloc, World.size_alloc] at this
    exact this
  obtain ⟨_, y1, y2, _⟩ := five_cells x2
  have HBX : Hid (Below w.heap.size w X) := by rw [hX] at HBW; exact HBW
  clear hX x2 HBW
  go_loopw [39] (fun c wr => ∃ (k m : Nat), k ≤ ps.length ∧ c = .int .i64 k ∧ wr = X.drewN m) (fun c _ => ps.length - (intOf c).toNat)
  case atStart => exact ⟨0, 0, Nat.zero_le _, rfl, rfl⟩
  case round =>
    obtain ⟨k, m, hk, rfl, rfl⟩ := hrel
    by_cases hlt : k < ps.length
    · have hlti : (k : Int) < (ps.length : Int) := by omega
      have hk0 : (0 : Int) ≤ (k : Int) := by omega
      obtain ⟨P, rfl, a0, a1⟩ := HVX.out k ps[k] (by simp [hlt])
      obtain ⟨Q, rfl, b0⟩ := HUX.out k ps[k].1 (by simp [hlt])
      obtain ⟨R, rfl, d0⟩ := HWX.out k ps[k].2 (by simp [hlt])
      have a0' : X.cell? ⟨P, k * 2, none⟩ = _ := (HBX.out.cell (p := ⟨P, k * 2, none⟩) (by have := block_lt_of_cell a0; exact this)).trans a0
      have a1' : X.cell? ⟨P, k * 2 + 1, none⟩ = _ := (HBX.out.cell (p := ⟨P, k * 2 + 1, none⟩) (by have := block_lt_of_cell a1; exact this)).trans a1
      have b0' : X.cell? ⟨Q, k, none⟩ = _ := (HBX.out.cell (p := ⟨Q, k, none⟩) (by have := block_lt_of_cell b0; exact this)).trans b0
      have d0' : X.cell? ⟨R, k, none⟩ = _ := (HBX.out.cell (p := ⟨R, k, none⟩) (by have := block_lt_of_cell d0; exact this)).trans d0
      clear a0 a1 b0 d0
      generalize ps[k].1 = p1 at a0' b0'
      generalize ps[k].2 = p2 at a1' d0'
      have eqP := eqPair
      go_wp2_with fail
      go_quiet (fail)
      clear eqP
      go_wp2
      go_roundw
      case rel => exact ⟨k + 1, m + nq, by omega, by go_num, rfl⟩
      case measure => simp [intOf]; omega
    · have hd : ¬ ((k : Int) < (ps.length : Int)) := by omega
      go_wp2
      go_ret
      exact ⟨rfl, below_drewN HBX.out m⟩

end Go.Proofs.Ytmcbinooihkjhaa
