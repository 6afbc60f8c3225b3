/-
  The table of the powers of ten; what Line answers: the numbers' numerals, a blank between each two, a line's end behind the last.
-/
import Derived.Test.YtmgjfakdjponoabDoorWorld
import Derived.Test.YtmgjfakdjponoabDoorShelf
import Derived.Lib.AppendIntMem
import Derived.Lib.ItoaNum
import Derived.Lib.ItoaLen
import Derived.Laws.IdiomStrings
namespace Go.Proofs.YtmgjfakdjponoabDoor
open Go.RowKit

/-- The table of the powers of ten reads as its initialiser lays it. -/
def Tab (w : World) : Prop := Lib.TabIs Tryd.prog w "internal/strconv.uint64pow10" .u64 Lib.pow10Tab

theorem Tab.below {w w' : World} (h : Tab w) (hb : Below w.heap.size w w') : Tab w' := Lib.tabBelow_of_tabIs h w' hb

/-- The first k numbers as text, blanks between. -/
def lineTo (z : Nat → Int) : Nat → List UInt8
  | 0 => []
  | k + 1 => (if 0 < k then lineTo z k ++ [32] else lineTo z k) ++ Lib.itoa (z k)

theorem lineTo_length (z : Nat → Int) (n : Nat) (hz : ∀ i, i < n → -9223372036854775808 ≤ z i ∧ z i ≤ 9223372036854775807) : ∀ k, k ≤ n → (lineTo z k).length ≤ 22 * k
  | 0, _ => by simp [lineTo]
  | k + 1, hk => by
    have ih := lineTo_length z n hz k (by omega)
    have := Lib.itoa_length_le (z k) (hz k (by omega)).1 (hz k (by omega)).2
    simp only [lineTo]
    by_cases h : 0 < k
    · rw [if_pos h]; simp; omega
    · rw [if_neg h]; simp; omega

/-- The numbers z 0 .. z (n - 1) lie at ao. -/
def HasInts (w : World) (ao : Option Addr) (n : Nat) (z : Nat → Int) : Prop :=
  ∀ i, i < n → (-9223372036854775808 ≤ z i ∧ z i ≤ 9223372036854775807) ∧ ∃ tb to, ao = some ⟨tb, to, none⟩ ∧ w.cell? ⟨tb, to + i, none⟩ = some (.int .i64 (z i))

theorem HasInts.later {w w' : World} {ao : Option Addr} {n : Nat} {z : Nat → Int} (h : HasInts w ao n z) (hg : Below w.heap.size w w') : HasInts w' ao n z := by
  intro i hi
  obtain ⟨hb, tb, to, e, hc⟩ := h i hi
  exact ⟨hb, tb, to, e, (hg.cell (p := ⟨tb, to + i, none⟩) (block_lt_of_cell hc)).trans hc⟩

theorem Tryd.infoByte : (Tryd.prog.info? 5).map (fun i => (i.zero, i.size, i.bytes)) = some (some (.int .u8 0), 1, 1) := by kernel_rfl

theorem new_one (W : World) (v : Value) (e : TypeId) : ∀ j u, [v][j]? = some u → (W.alloc (.cells #[v] e)).cell? ((⟨W.heap.size, 0, none⟩ : Addr).add j) = some u := by
  intro j u' hj
  match j, hj with
  | 0, hj => simp at hj; subst hj; simp [Addr.add]

set_option maxRecDepth 100000 in
set_option maxHeartbeats 4000000 in
theorem numline_any (ao : Option Addr) (n cap : Nat) (z : Nat → Int) (w : World) (hz : HasInts w ao n z) (hn : n ≤ 100000000) (ht : Tab w) :
    Calls Tryd.prog 22 #[.slice ao n cap] w fun e w' => e = .returned (.string ⟨(lineTo z n ++ [10]).toArray⟩) ∧ Below w.heap.size w w' := by
  obtain ⟨i0, hi, hz0, hz1, hz2⟩ := info_parts Tryd.infoByte
  have hT := Lib.tabBelow_of_tabIs ht
  have HL := Nu.hid (lineTo_length z n (fun i hi => (hz i hi).1))
  have HZ := Nu.hid hz
  have HT := Nu.hid hT
  clear hz ht hT
  go_enter Tryd.func22, Tryd.ntmps22
  go_wp2
  go_loopw [3, 8] (fun v c wr => ∃ k : Nat, k ≤ n ∧ c = .int .i64 k ∧ wr.ownsRow w.heap.size 5 1 v (lineTo z k).length (Lib.byteCells (lineTo z k)) ∧ Below w.heap.size w wr) (fun _ c _ => n - (intOf c).toNat)
  case atStart => exact ⟨0, Nat.zero_le _, rfl, World.ownsRow_nil _ _ _ _, Below.refl _ _⟩
  case round =>
    obtain ⟨k, hk, rfl, hown, hb⟩ := hrel
    have hll := HL.out k hk
    have hBw := hb.size
    by_cases hlt : k < n
    · have hlti : (k : Int) < (n : Int) := by omega
      obtain ⟨⟨b0, b1⟩, tb, to, rfl, cq⟩ := (HZ.out.later hb) k hlt
      have HS := Nu.hid (show lineTo z (k + 1) = (if 0 < k then lineTo z k ++ [32] else lineTo z k) ++ Lib.itoa (z k) from rfl)
      generalize lineTo z k = L at *
      have HC := Nu.hid cq
      by_cases h0 : 0 < k
      · have h0i : (0 : Int) < (k : Int) := by omega
        go_wp2_with (at_builtin; refine wpList_append_own _ rfl _ _ 44 rfl w.heap.size 5 i0 (.int .u8 0) 1 1 Tryd.underlying44 hi hz0 hz1 hz2 rfl (by decide) _ _ _ rfl (hown.alloc _) ⟨wr.heap.size, 0, none⟩ 1 1 [.int .u8 32] rfl rfl (new_one _ _ _) (by intro u' hu'; simp at hu'; subst hu'; rfl) (by unfold maxLen; omega) (by omega) (by simp; omega) ?_; refine Hid.out ?_)
        refine Nu.hid ?_
        intro v1 w1 hown1 hg1 _
        have hb1 : Below w.heap.size w w1 := (hb.alloc hBw _).grown hg1 (by simp; omega) (fun q hq => (hown.lt q hq).1)
        go_wp2_with (go_at_call 38; refine (Tryd.strconv_AppendInt w.heap.size (L.length + 1) (z k) b0 b1 v1 _ w1 hown1 hb1.size (by omega) (HT.out.on hb1)).mono ?_; rintro e w2 ⟨v2, rfl, hown2, hb2, -⟩; refine Hid.out ?_)
        refine Nu.hid ?_
        have hb02 := hb1.trans hb2
        clear hown1 hg1 hb1 hb2 cq
        go_wp2
        go_roundw
        case rel =>
          refine ⟨k + 1, by omega, by go_num, ?_, hb02⟩
          have e1 : (L ++ [32] ++ Lib.itoa (z k)).length = L.length + 1 + (Lib.itoa (z k)).length := by simp; omega
          have e2 : Lib.byteCells (L ++ [32] ++ Lib.itoa (z k)) = Lib.byteCells L ++ [.int .u8 32] ++ Lib.byteCells (Lib.itoa (z k)) := by simp [Lib.byteCells]
          rw [HS.out, if_pos h0, e1, e2]
          exact hown2
        case measure => simp [intOf]; omega
      · have h0i : ¬ ((0 : Int) < (k : Int)) := by omega
        go_wp2_with (go_at_call 38; refine (Tryd.strconv_AppendInt w.heap.size L.length (z k) b0 b1 _ _ wr hown hBw (by omega) (HT.out.on hb)).mono ?_; rintro e w2 ⟨v2, rfl, hown2, hb2, -⟩; refine Hid.out ?_)
        refine Nu.hid ?_
        have hb02 := hb.trans hb2
        clear hb2 cq
        go_wp2
        go_roundw
        case rel =>
          refine ⟨k + 1, by omega, by go_num, ?_, hb02⟩
          rw [HS.out, if_neg h0]
          simpa [Lib.byteCells] using hown2
        case measure => simp [intOf]; omega
    · have hd : ¬ ((k : Int) < (n : Int)) := by omega
      have hkn : k = n := by omega
      subst hkn
      obtain ⟨L, hL⟩ : ∃ L, L = lineTo z k := ⟨_, rfl⟩
      rw [← hL] at hown hll
      have HLL := Nu.hid hL
      clear hL
      go_wp2_with (at_builtin; refine wpList_append_own _ rfl _ _ 44 rfl w.heap.size 5 i0 (.int .u8 0) 1 1 Tryd.underlying44 hi hz0 hz1 hz2 rfl (by decide) _ _ _ rfl (hown.alloc _) ⟨wr.heap.size, 0, none⟩ 1 1 [.int .u8 10] rfl rfl (new_one _ _ _) (by intro u' hu'; simp at hu'; subst hu'; rfl) (by unfold maxLen; omega) (by omega) (by simp; omega) ?_; refine Hid.out ?_)
      refine Nu.hid ?_
      intro v1 w1 hown1 hg1 _
      have hb1 : Below w.heap.size w w1 := (hb.alloc hBw _).grown hg1 (by simp; omega) (fun q hq => (hown.lt q hq).1)
      have eL : Lib.byteCells L ++ [Value.int .u8 10] = Lib.byteCells (L ++ [10]) := by simp [Lib.byteCells]
      rw [eL] at hown1
      rcases hown1.2 with ⟨-, h0⟩ | ⟨gb, c1, cur, rfl, -⟩
      · omega
      · have hcv := run_convert_bytes_back (P := Tryd.prog) w1 44 9 5 ⟨gb, 0, none⟩ c1 (L ++ [10]) Tryd.underlying44 Tryd.underlying5 Tryd.underlying9 (fun j hj => hown1.cells (g := gb) rfl j _ (by rw [Lib.byteCells, List.getElem?_map, List.getElem?_eq_getElem hj]; rfl))
        have eln : (L ++ [(10 : UInt8)]).length = L.length + 1 := by simp
        rw [eln] at hcv
        clear eln
        have HOW := Nu.hid hown1
        clear hown1 hg1
        go_wp2
        go_ret
        rw [← HLL.out]
        exact ⟨rfl, hb1⟩

end Go.Proofs.YtmgjfakdjponoabDoor
