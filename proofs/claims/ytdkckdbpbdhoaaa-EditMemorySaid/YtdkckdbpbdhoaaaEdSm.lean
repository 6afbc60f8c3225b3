/-
  The document's own Same, of graphs that are alike; told; the numbers from k on.
-/
import Derived.Test.YtdkckdbpbdhoaaaEdBx
import Derived.Test.YtdkckdbpbdhoaaaSiEq
import Derived.Test.YtdkckdbpbdhoaaaMgB
import Derived.Test.YtdkckdbpbdhoaaaEdE
namespace Go.Proofs.Ytdkckdbpbdhoaaa
open Go.RowKit Go.Sort

set_option maxRecDepth 100000 in
set_option maxHeartbeats 4000000 in
theorem same_true (n : Int) (ao bo : Option Addr) (ca cb : Nat) (es : List (Int × Int)) (w : World) (he : EdgesAt w ao es) (hf : EdgesAt w bo es) (hl : es.length ≤ 9223372036854775807) :
    Calls Try.prog 32 #[.agg #[.int .i64 n, .slice ao es.length ca], .agg #[.int .i64 n, .slice bo es.length cb]] w fun e w' => e = .returned (.bool true) ∧ Below w.heap.size w w' := by
  have HE := Nu.hid he
  have HF := Nu.hid hf
  have hB : Below w.heap.size w ((w.alloc (.cells #[.int .i64 n, .slice ao es.length ca] 24)).alloc (.cells #[.int .i64 n, .slice bo es.length cb] 24)) := ((Below.refl _ _).alloc (Nat.le_refl _) _).alloc (by simp) _
  have h0 : ((w.alloc (.cells #[.int .i64 n, .slice ao es.length ca] 24)).alloc (.cells #[.int .i64 n, .slice bo es.length cb] 24)).heap[w.heap.size]? = some (.cells #[.int .i64 n, .slice ao es.length ca] 24 (0, 0)) := by
    rw [Below.heap_alloc _ _ _ (by simp)]
    exact heap_alloc_new w _
  have h1 : ((w.alloc (.cells #[.int .i64 n, .slice ao es.length ca] 24)).alloc (.cells #[.int .i64 n, .slice bo es.length cb] 24)).heap[w.heap.size + 1]? = some (.cells #[.int .i64 n, .slice bo es.length cb] 24 (0, 0)) := by
    have := heap_alloc_new (w.alloc (.cells #[.int .i64 n, .slice ao es.length ca] 24)) (.cells #[.int .i64 n, .slice bo es.length cb] 24)
    simpa using this
  have HB := Nu.hid hB
  have H0 := Nu.hid h0
  have H1 := Nu.hid h1
  clear he hf hB h0 h1
  go_enter Try.func32, Try.ntmps32
  go_wp2
  go_loopw [5] (fun c wr => ∃ k : Nat, k ≤ es.length ∧ c = .int .i64 k ∧ wr.heap[w.heap.size]? = some (.cells #[.int .i64 n, .slice ao es.length ca] 24 (0, 0)) ∧ wr.heap[w.heap.size + 1]? = some (.cells #[.int .i64 n, .slice bo es.length cb] 24 (0, 0)) ∧ Below w.heap.size w wr) (fun c _ => es.length - (intOf c).toNat)
  case atStart => exact ⟨0, Nat.zero_le _, rfl, H0.out, H1.out, HB.out⟩
  case round =>
    obtain ⟨k, hk, rfl, h0, h1, hb⟩ := hrel
    have H0R := Nu.hid h0
    have H1R := Nu.hid h1
    have HBR := Nu.hid hb
    obtain ⟨a0, a1, -⟩ := pair_cells h0
    obtain ⟨b0, b1, -⟩ := pair_cells h1
    have hs0 := lt_of_block h0
    have hs1 := lt_of_block h1
    clear h0 h1
    by_cases hlt : k < es.length
    · have hlti : (k : Int) < (es.length : Int) := by omega
      have hk0 : (0 : Int) ≤ (k : Int) := by omega
      obtain ⟨p, hp⟩ : ∃ p, es[k]? = some p := ⟨_, List.getElem?_eq_getElem hlt⟩
      obtain ⟨b, o, rfl, c0, c1⟩ := (HE.out.later hb) k p hp
      obtain ⟨b', o', rfl, d0, d1⟩ := (HF.out.later hb) k p hp
      have hbl : b < wr.heap.size := block_lt_of_cell c0
      have hbl' : b' < wr.heap.size := block_lt_of_cell d0
      obtain ⟨p1, p2⟩ := p
      dsimp only at c0 c1 d0 d1
      have hbe : (p1 == p1 && p2 == p2) = true := by simp
      clear hb hp
      go_wp2_with fail
      have eqP := eqEdge
      go_quiet (fail)
      clear eqP
      go_wp2
      go_roundw
      case rel => exact ⟨k + 1, by omega, by go_num, H0R.out, H1R.out, below_drewN HBR.out _⟩
      case measure => simp [intOf]; omega
    · have hd : ¬ ((k : Int) < (es.length : Int)) := by omega
      clear hb
      go_wp2
      go_ret
      exact ⟨rfl, HBR.out⟩

set_option maxRecDepth 100000 in
set_option maxHeartbeats 4000000 in
theorem told_true (n c : Int) (ao bo : Option Addr) (ca cb : Nat) (es : List (Int × Int)) (w : World) (he : EdgesAt w ao es) (hf : EdgesAt w bo es) (hl : es.length ≤ 9223372036854775807) :
    Calls Try.prog 19 #[.agg #[.int .i64 n, .slice ao es.length ca], .int .i64 c, .agg #[.int .i64 n, .slice bo es.length cb], .int .i64 c] w fun e w' => e = .returned (.bool true) ∧ Below w.heap.size w w' := by
  have hB : Below w.heap.size w ((w.alloc (.cells #[.int .i64 n, .slice ao es.length ca] 24)).alloc (.cells #[.int .i64 n, .slice bo es.length cb] 24)) := ((Below.refl _ _).alloc (Nat.le_refl _) _).alloc (by simp) _
  have HB := Nu.hid hB
  have HS := Nu.hid (same_true n ao bo ca cb es _ (he.later hB) (hf.later hB) hl)
  have hcc : (c == c) = true := by simp
  clear hB he hf
  go_enter Try.func19, Try.ntmps19
  go_wp2_with (go_at_call 32; refine HS.out.mono ?_; rintro e w' ⟨rfl, hb⟩)
  go_ret
  exact ⟨rfl, HB.out.trans (hb.mono HB.out.size)⟩

set_option maxRecDepth 100000 in
set_option maxHeartbeats 4000000 in
theorem from_any (k m : Nat) (w : World) (hk : k ≤ 4194304) (hm : m ≤ 4194304) :
    Calls Try.prog 31 #[.int .i64 (k : Int), .int .i64 (m : Int)] w fun e w' => ∃ a c, e = .returned (.slice a m c) ∧ OwnZ w' w.heap.size (.slice a m c) (Ed.fr k m) ∧ Below w.heap.size w w' := by
  go_enter Try.func31, Try.ntmps31
  go_wp2
  go_loopw [5, 6] (fun v c wr => ∃ (j : Nat) (L : List Int), j ≤ m ∧ c = .int .i64 j ∧ L = Ed.fr k j ∧ OwnZ wr w.heap.size v L ∧ Below w.heap.size w wr) (fun _ c _ => m - (intOf c).toNat)
  case atStart => exact ⟨0, [], Nat.zero_le _, rfl, rfl, OwnZ.nil _ _, Below.refl _ _⟩
  case round =>
    obtain ⟨j, L, hj, rfl, hL, hrow, hb⟩ := hrel
    have HROW := Nu.hid hrow
    have HB := Nu.hid hb
    have HL := Nu.hid hL
    have hs0 : w.heap.size ≤ wr.heap.size := hb.size
    have hLl : L.length = j := by rw [hL]; exact Ed.fr_length k j
    have HLL := Nu.hid hLl
    by_cases hlt : j < m
    · have hlti : (j : Int) < (m : Int) := by omega
      obtain ⟨q, hq⟩ : ∃ q : Nat, (k : Int) + (j : Int) = (q : Int) := ⟨k + j, by omega⟩
      have hqn : k + j = q := by omega
      have HQN := Nu.hid hqn
      have hwq : IntKind.i64.wrap (q : Int) = (q : Int) := wrap_small _ (by omega) (by omega)
      clear hrow hb hL hLl hqn
      go_wp2_with (at_builtin; refine wpList_push rfl _ _ rfl _ w.heap.size _ L (q : Int) HROW.out hs0 (by have := HLL.out; omega) rfl rfl ?_; refine Hid.out ?_)
      refine Nu.hid ?_
      intro v' w3 hrow3 _ _ hb3
      have HROW3 := Nu.hid hrow3
      have HB3 := Nu.hid (HB.out.trans hb3)
      clear hrow3 hb3
      go_wp2
      go_roundw
      case rel => exact ⟨j + 1, _, by omega, by go_num, by rw [Ed.fr_succ, HQN.out, HL.out], HROW3.out, HB3.out⟩
      case measure => simp [intOf]; omega
    · have hd : ¬ ((j : Int) < (m : Int)) := by omega
      obtain rfl : j = m := by omega
      obtain ⟨a, c, rfl, -, -⟩ := hrow.form
      rw [hLl] at HROW ⊢
      rw [hL] at HROW
      clear hrow hb hL hLl
      go_wp2
      go_ret
      exact ⟨a, c, rfl, HROW.out, HB.out⟩

end Go.Proofs.Ytdkckdbpbdhoaaa
