/-
  complete: the complete graphs that the fixed fact asks for.
-/
import Derived.Test.YtdhaaodalchpkaaMgR
import Derived.Test.YtdhaaodalchpkaaMgC
import Derived.Test.YtdhaaodalchpkaaSiValid
namespace Go.Proofs.Ytdhaaodalchpkaa
open Go.RowKit

namespace Kw
def row (a v : Nat) : List (Int × Int) := (List.range' (a + 1) (v - (a + 1))).map fun b : Nat => ((a : Int), (b : Int))
def cmpl (N : Nat) : Nat → List (Int × Int)
  | 0 => []
  | u + 1 => cmpl N u ++ row u N
theorem row_next {a v : Nat} (h : a + 1 ≤ v) : row a (v + 1) = row a v ++ [((a : Int), (v : Int))] := by
  unfold row
  rw [show v + 1 - (a + 1) = (v - (a + 1)) + 1 by omega, List.range'_1_concat, List.map_append, show a + 1 + (v - (a + 1)) = v by omega]
  rfl
end Kw

def Compl15 (N : Nat) (w : World) (e : Ending) (w' : World) : Prop := ∃ ao cap, e = .returned (.agg #[.int .i64 (N : Int), .slice ao (Kw.cmpl N N).length cap]) ∧ EdgesAt w' ao (Kw.cmpl N N) ∧ Below w.heap.size w w'

set_option maxRecDepth 100000 in
set_option maxHeartbeats 8000000 in
theorem complete15_any (N : Nat) (hN : N ≤ 10) (w : World) : Calls Try.prog 21 #[.int .i64 (N : Int)] w (Compl15 N w) := by
  obtain ⟨W1, hW1⟩ : ∃ W1, W1 = (w.alloc (.cells #[.int .i64 0, .slice none 0 0] 24)).alloc (.cells #[.int .i64 (N : Int), .slice none 0 0] 24) := ⟨_, rfl⟩
  have hb1 : Below w.heap.size w W1 := by rw [hW1]; exact ((Below.refl _ _).alloc (Nat.le_refl _) _).alloc (by simp) _
  have hs1 : W1.heap.size = w.heap.size + 2 := by rw [hW1]; simp
  have a0 : W1.heap[w.heap.size]? = some (.cells #[.int .i64 0, .slice none 0 0] 24 (0, 0)) := by
    rw [hW1, Below.heap_alloc _ _ _ (by simp)]
    exact heap_alloc_new w _
  have a1 : W1.heap[w.heap.size + 1]? = some (.cells #[.int .i64 (N : Int), .slice none 0 0] 24 (0, 0)) := by
    rw [hW1]
    have := heap_alloc_new (w.alloc (.cells #[.int .i64 0, .slice none 0 0] 24)) (.cells #[.int .i64 (N : Int), .slice none 0 0] 24)
    rw [show (w.alloc (.cells #[.int .i64 0, .slice none 0 0] 24)).heap.size = w.heap.size + 1 by simp] at this
    exact this
  have HW1 := Nu.hid hW1
  have HB1 := Nu.hid hb1
  have HS1 := Nu.hid hs1
  have HA0 := Nu.hid a0
  have HA1 := Nu.hid a1
  clear hW1 hb1 hs1 a0 a1
  go_enter Try.func21, Try.ntmps21
  go_wp2_with fail
  rw [← HW1.out]
  go_loopw [4] (fun uv wr => ∃ (u : Nat) (v : Value), uv = .int .i64 (u : Int) ∧ u ≤ N ∧ (Kw.cmpl N u).length ≤ u * 16 ∧ wr.heap[w.heap.size]? = some (.cells #[.int .i64 0, .slice none 0 0] 24 (0, 0)) ∧ wr.heap[w.heap.size + 1]? = some (.cells #[.int .i64 (N : Int), v] 24 (0, 0)) ∧ OwnE wr (w.heap.size + 2) v (Kw.cmpl N u) ∧ Below w.heap.size w wr ∧ w.heap.size + 2 ≤ wr.heap.size) (fun uv _ => N - (intOf uv).toNat)
  case atStart => exact ⟨0, _, rfl, Nat.zero_le _, by simp [Kw.cmpl], HA0.out, HA1.out, World.ownsRow_nil _ _ _ _, HB1.out, by have := HS1.out; omega⟩
  case round =>
    obtain ⟨u, v, rfl, huN, hln, b0, b1, hown, hbel, hsz⟩ := hrel
    by_cases hlt : u < N
    · have i1 : (u : Int) < (N : Int) := by omega
      have i2 : (u : Int) + 1 ≤ 11 := by omega
      have HST : Hid ((Kw.cmpl N u ++ Kw.row u (u + 1)).length ≤ u * 16 + (u + 1) ∧ wr.heap[w.heap.size]? = some (.cells #[.int .i64 0, .slice none 0 0] 24 (0, 0)) ∧ wr.heap[w.heap.size + 1]? = some (.cells #[.int .i64 (N : Int), v] 24 (0, 0)) ∧ OwnE wr (w.heap.size + 2) v (Kw.cmpl N u ++ Kw.row u (u + 1)) ∧ Below w.heap.size w wr ∧ w.heap.size + 2 ≤ wr.heap.size) := by
        have e : Kw.row u (u + 1) = [] := by unfold Kw.row; simp
        rw [e, List.append_nil]
        exact ⟨by omega, b0, b1, hown, hbel, hsz⟩
      clear b0 b1 hown hbel hsz hln
      go_wp2_with fail
      go_loopw [5] (fun vv wr => ∃ (x : Nat) (v : Value), vv = .int .i64 (x : Int) ∧ u + 1 ≤ x ∧ x ≤ N ∧ (Kw.cmpl N u ++ Kw.row u x).length ≤ u * 16 + x ∧ wr.heap[w.heap.size]? = some (.cells #[.int .i64 0, .slice none 0 0] 24 (0, 0)) ∧ wr.heap[w.heap.size + 1]? = some (.cells #[.int .i64 (N : Int), v] 24 (0, 0)) ∧ OwnE wr (w.heap.size + 2) v (Kw.cmpl N u ++ Kw.row u x) ∧ Below w.heap.size w wr ∧ w.heap.size + 2 ≤ wr.heap.size) (fun vv _ => N - (intOf vv).toNat)
      case atStart => exact ⟨u + 1, v, by simp, Nat.le_refl _, hlt, HST.out⟩
      case round =>
        obtain ⟨x, v', rfl, hux, hxN, hln, b0, b1, hown, hbel, hsz⟩ := hrel
        by_cases hx : x < N
        · have j1 : (x : Int) < (N : Int) := by omega
          have j2 : (x : Int) + 1 ≤ 11 := by omega
          obtain ⟨x0, x1, x2⟩ := pair_cells b1
          obtain ⟨l, hl⟩ : ∃ l, Kw.cmpl N u ++ Kw.row u x = l := ⟨_, rfl⟩
          have hnx : Kw.cmpl N u ++ Kw.row u (x + 1) = l ++ [((u : Int), (x : Int))] := by rw [Kw.row_next hux, ← List.append_assoc, hl]
          rw [hl] at hown hln
          obtain ⟨vo, vc, hve, -, -, -, -⟩ := hown.form
          subst hve
          have HOWN := Nu.hid hown
          have HB0 := Nu.hid b0
          have HB1 := Nu.hid b1
          have HBEL := Nu.hid hbel
          have HNX := Nu.hid hnx
          have HLN := Nu.hid hln
          clear b0 b1 hown hbel hl hnx hln
          go_wp2_with (at_builtin; refine wpList_pushE rfl _ _ rfl wr (w.heap.size + 2) (.slice vo l.length vc) l (u : Int) (x : Int) HOWN.out hsz (by have := HLN.out; omega) rfl rfl ?_; refine Hid.out ?_)
          refine Nu.hid ?_
          intro v5 w5 ho5 hb5
          have e0 := (hb5.block w.heap.size (by omega)).trans HB0.out
          have e1 := (hb5.block (w.heap.size + 1) (by omega)).trans HB1.out
          obtain ⟨y0, y1, y2⟩ := pair_cells e1
          obtain ⟨v5o, v5c, hv5, -, -, -, -⟩ := ho5.form
          rw [List.length_append, List.length_singleton] at hv5
          subst hv5
          have HREL : Hid ((w5.setCell ⟨w.heap.size + 1, 1, none⟩ (.slice v5o (l.length + 1) v5c)).heap[w.heap.size]? = some (.cells #[.int .i64 0, .slice none 0 0] 24 (0, 0)) ∧ (w5.setCell ⟨w.heap.size + 1, 1, none⟩ (.slice v5o (l.length + 1) v5c)).heap[w.heap.size + 1]? = some (.cells #[.int .i64 (N : Int), .slice v5o (l.length + 1) v5c] 24 (0, 0)) ∧ OwnE (w5.setCell ⟨w.heap.size + 1, 1, none⟩ (.slice v5o (l.length + 1) v5c)) (w.heap.size + 2) (.slice v5o (l.length + 1) v5c) (l ++ [((u : Int), (x : Int))]) ∧ Below w.heap.size w (w5.setCell ⟨w.heap.size + 1, 1, none⟩ (.slice v5o (l.length + 1) v5c)) ∧ w.heap.size + 2 ≤ (w5.setCell ⟨w.heap.size + 1, 1, none⟩ (.slice v5o (l.length + 1) v5c)).heap.size) := by
            refine ⟨(heap_setCell_other w5 ⟨w.heap.size + 1, 1, none⟩ _ _ (by simp)).trans e0, ?_, ?_, ?_, ?_⟩
            · have := heap_setCell_same w5 (w.heap.size + 1) 1 _ _ (.slice v5o (l.length + 1) v5c) e1
              simpa using this
            · refine row_same ho5 fun g hg hB _ => heap_setCell_other w5 ⟨w.heap.size + 1, 1, none⟩ g _ (by show g ≠ w.heap.size + 1; omega)
            · exact ((HBEL.out.trans (hb5.mono (by omega))).setCell (p := ⟨w.heap.size + 1, 1, none⟩) (by show w.heap.size ≤ w.heap.size + 1; omega) _)
            · have := hb5.size
              simp
              omega
          clear e0 e1 ho5 hb5 x0 x1 x2
          go_wp2_with fail
          go_roundw
          case rel =>
            obtain ⟨r1, r2, r3, r4, r5⟩ := HREL.out
            refine ⟨x + 1, _, by simp, by omega, hx, ?_, r1, r2, ?_, r4, r5⟩
            · rw [HNX.out]
              have := HLN.out
              simp
              omega
            · rw [HNX.out]
              exact r3
          case measure =>
            simp [intOf]
            omega
        · obtain rfl : x = N := by omega
          have HREL : Hid ((Kw.cmpl x (u + 1)).length ≤ (u + 1) * 16 ∧ wr.heap[w.heap.size]? = some (.cells #[.int .i64 0, .slice none 0 0] 24 (0, 0)) ∧ wr.heap[w.heap.size + 1]? = some (.cells #[.int .i64 (x : Int), v'] 24 (0, 0)) ∧ OwnE wr (w.heap.size + 2) v' (Kw.cmpl x (u + 1)) ∧ Below w.heap.size w wr ∧ w.heap.size + 2 ≤ wr.heap.size) := ⟨by show (Kw.cmpl x u ++ Kw.row u x).length ≤ _; omega, b0, b1, hown, hbel, hsz⟩
          clear b0 b1 hown hbel hsz hln
          go_wp2_with fail
          go_roundw
          case rel => exact ⟨u + 1, v', by simp, hlt, HREL.out⟩
          case measure =>
            simp [intOf]
            omega
    · obtain rfl : u = N := by omega
      obtain ⟨vo, vc, hve, -, -, hat, -⟩ := hown.form
      subst hve
      obtain ⟨x0, x1, x2⟩ := pair_cells b1
      obtain ⟨z0, z1, z2⟩ := pair_cells b0
      have HB0 := Nu.hid b0
      have HAT := Nu.hid hat
      have HBEL := Nu.hid hbel
      have HOWN := Nu.hid hown
      clear b0 b1 hown hbel hat hln
      go_wp2_with fail
      refine bodyPost_ret (v := .agg #[.int .i64 (u : Int), .slice vo (Kw.cmpl u u).length vc]) (results_cell_row (p := 2) (ty := 24) Try.results21 _ _ w.heap.size 24 _ (0, 0) _ rfl (pair_set HB0.out _ _) Try.underlying24 rfl (by kernel_rfl)) rfl ?_
      refine ⟨vo, vc, rfl, ?_, ?_⟩
      · have h1 : OwnE ((wr.setCell ⟨w.heap.size, 0, none⟩ (.int .i64 (u : Int))).setCell ⟨w.heap.size, 1, none⟩ (.slice vo (Kw.cmpl u u).length vc)) (w.heap.size + 2) (.slice vo (Kw.cmpl u u).length vc) (Kw.cmpl u u) := row_same HOWN.out fun g hg hB _ => by
          rw [heap_setCell_other _ ⟨w.heap.size, 1, none⟩ g _ (by show g ≠ w.heap.size; omega), heap_setCell_other _ ⟨w.heap.size, 0, none⟩ g _ (by show g ≠ w.heap.size; omega)]
        obtain ⟨vo', vc', e, -, -, hat, -⟩ := h1.form
        cases e
        exact hat
      · exact (HBEL.out.setCell (p := ⟨w.heap.size, 0, none⟩) (Nat.le_refl _) _).setCell (p := ⟨w.heap.size, 1, none⟩) (Nat.le_refl _) _
end Go.Proofs.Ytdhaaodalchpkaa
