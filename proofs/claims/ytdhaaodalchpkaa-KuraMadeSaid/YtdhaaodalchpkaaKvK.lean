/-
  Layer 15, the program: slices.Grow of nil, slices.Concat of two lists.
-/
import Derived.Test.YtdhaaodalchpkaaMgQ
import Derived.Test.YtdhaaodalchpkaaMgB
import Derived.Lib.AppendZerosOnto
import Derived.Lib.SliceRun
namespace Go.Proofs.Ytdhaaodalchpkaa
open Go.RowKit

set_option maxRecDepth 100000 in
set_option maxHeartbeats 4000000 in
theorem vgrow_any (n : Nat) (w : World) (h0 : 0 < n) (hn : n ≤ 1000) :
    Calls Try.prog 66 #[.slice none 0 0, .int .i64 (n : Int)] w fun e w' => ∃ c, e = .returned (.slice (some ⟨w.heap.size, 0, none⟩) 0 c) ∧ OwnZ w' w.heap.size (.slice (some ⟨w.heap.size, 0, none⟩) 0 c) [] ∧ Below w.heap.size w w' := by
  obtain ⟨i0, hi, hz0, hz1, hz2⟩ := info_parts Try.infoNum
  have hap : ∀ ty, (Builtin.append_ #[36, 3] ty #[.slice none 0 0, .int .i64 (n : Int)]).run Try.prog w = .ok (.slice (some ⟨w.heap.size, 0, none⟩) n (grownCap w n 0 3)) (w.drew.alloc (.cells (Builtin.zeroCells (Value.int .i64 0).cells n ++ Builtin.zeroCells (Value.int .i64 0).cells (grownCap w n 0 3 - n)) 3)) := fun ty =>
    Lib.run_append_nil_zeros w 36 3 ty 3 i0 (.int .i64 0) .i64 .i64 Try.underlying36 Try.underlying3 hi hz0 n h0 (by omega) (by omega) (by rw [hz2]; omega)
  have hG1 := grownCap_ge w n 0 3
  have hG2 := grownCap_le_maxLen w n 0 3 (by unfold maxLen; omega)
  obtain ⟨G, hG⟩ : ∃ G, grownCap w n 0 3 = G := ⟨_, rfl⟩
  rw [hG] at hap hG1 hG2
  obtain ⟨Z, hZ⟩ : ∃ Z, Builtin.zeroCells (Value.int .i64 0).cells n ++ Builtin.zeroCells (Value.int .i64 0).cells (G - n) = Z := ⟨_, rfl⟩
  have hZs : Z.size = G := by
    rw [← hZ]
    simp [Builtin.zeroCells, Value.cells]
    omega
  rw [hZ] at hap
  have HZS := Nu.hid hZs
  have hm : G ≤ 9223372036854775807 := by unfold maxLen at hG2; exact hG2
  have k1 : ¬ ((n : Int) < 0) := by omega
  have k2 : (0 : Int) < (n : Int) := by omega
  have k3 : IntKind.i64.wrap (n : Int) = (n : Int) := by rw [IntKind.wrap_i64]; omega
  have k4 : (0 : Int) ≤ (G : Int) := by omega
  have HF : Hid (OwnZ (w.drew.alloc (.cells Z 3)) w.heap.size (.slice (some ⟨w.heap.size, 0, none⟩) 0 G) [] ∧ Below w.heap.size w (w.drew.alloc (.cells Z 3))) := by
    refine Nu.hid ⟨⟨by simp, .inr ⟨w.heap.size, G, Z, rfl, Nat.le_refl _, heap_alloc_new w.drew _, Nat.zero_le _, hG2, by omega, by simp⟩⟩, ((Below.refl w.heap.size w).drew).alloc (Nat.le_refl _) _⟩
  clear hZ hZs hG hG1 hG2
  go_enter Try.func66, Try.ntmps66
  go_wp2_with (at_builtin; refine Lib.wpList_append_run _ rfl _ _ _ _ rfl _ _ rfl rfl _ _ (hap _) ?_)
  all_goals (go_ret; exact ⟨G, rfl, HF.out.1, HF.out.2⟩)

def CatP (l1 l2 : List Int) (w : World) (e : Ending) (w' : World) : Prop := ∃ v, e = .returned v ∧ OwnZ w' w.heap.size v (l1 ++ l2) ∧ Below w.heap.size w w'

set_option maxRecDepth 100000 in
set_option maxHeartbeats 4000000 in
theorem vconcat_any (c : Nat) (a1 a2 : Option Addr) (n1 n2 c1 c2 : Nat) (l1 l2 : List Int) (w : World) (h1 : w.cell? ⟨c, 0, none⟩ = some (.slice a1 n1 c1)) (h2 : w.cell? ⟨c, 1, none⟩ = some (.slice a2 n2 c2)) (hl1 : Lst w a1 n1 c1 l1) (hl2 : Lst w a2 n2 c2 l2) (h0 : 0 < n1 + n2) (hn : n1 + n2 ≤ 1000) :
    Calls Try.prog 53 #[.slice (some ⟨c, 0, none⟩) 2 2] w (CatP l1 l2 w) := by
  have HGR := Nu.hid (vgrow_any (n1 + n2) w h0 hn)
  have HL1 := Nu.hid hl1
  have HL2 := Nu.hid hl2
  have H1 := Nu.hid h1
  have H2 := Nu.hid h2
  have s1 : IntKind.i64.wrap (n1 : Int) = (n1 : Int) := by rw [IntKind.wrap_i64]; omega
  have s2 : IntKind.i64.wrap ((n1 : Int) + (n2 : Int)) = (n1 : Int) + (n2 : Int) := by rw [IntKind.wrap_i64]; omega
  have s3 : decide ((n1 : Int) < 0) = false := by simp
  have s4 : decide ((n1 : Int) + (n2 : Int) < 0) = false := by simp; omega
  have HSUM : Hid (((n1 + n2 : Nat) : Int) = (n1 : Int) + (n2 : Int)) := by show _ = _; omega
  clear hl1 hl2
  go_enter Try.func53, Try.ntmps53
  go_wp2
  go_loopw [3, 11] (fun sv cv wr => wr = w ∧ ((cv = .int .i64 0 ∧ sv = .int .i64 0) ∨ (cv = .int .i64 1 ∧ sv = .int .i64 (n1 : Int)) ∨ (cv = .int .i64 2 ∧ sv = .int .i64 ((n1 : Int) + (n2 : Int))))) (fun _ cv _ => 2 - (intOf cv).toNat)
  case atStart => exact ⟨rfl, .inl ⟨rfl, rfl⟩⟩
  case round =>
    obtain ⟨hwr, hcase⟩ := hrel
    obtain rfl := hwr.symm
    clear hwr
    rcases hcase with ⟨rfl, rfl⟩ | ⟨rfl, rfl⟩ | ⟨rfl, rfl⟩
    · go_wp2
      go_roundw
      case rel => exact ⟨by first | rfl | trivial, .inr (.inl ⟨by first | rfl | go_num, by first | rfl | (simp; done)⟩)⟩
      case measure => simp [intOf]
    · go_wp2
      go_roundw
      case rel => exact ⟨by first | rfl | trivial, .inr (.inr ⟨by first | rfl | go_num, by first | rfl | (simp; done)⟩)⟩
      case measure => simp [intOf]
    · go_wp2_with (go_at_call 66; rw [← HSUM.out]; refine HGR.out.mono ?_; refine Hid.out ?_)
      refine Nu.hid ?_
      rintro e w1 ⟨cg, rfl, ho1, hb1⟩
      have HO1 := Nu.hid ho1
      have HB1 := Nu.hid hb1
      clear ho1 hb1 h1 h2
      go_wp2
      go_loopw [6, 27] (fun v cv wr => Below w.heap.size w wr ∧ ((cv = .int .i64 0 ∧ OwnZ wr w.heap.size v []) ∨ (cv = .int .i64 1 ∧ OwnZ wr w.heap.size v l1) ∨ (cv = .int .i64 2 ∧ OwnZ wr w.heap.size v (l1 ++ l2)))) (fun _ cv _ => 2 - (intOf cv).toNat)
      case atStart => exact ⟨HB1.out, .inl ⟨rfl, HO1.out⟩⟩
      case round =>
        obtain ⟨hb, hcase⟩ := hrel
        obtain ⟨U, rfl⟩ : ∃ U, U = wr := ⟨wr, rfl⟩
        have HB := Nu.hid hb
        have hs := hb.size
        have c1' := (hb.cell (p := ⟨c, 0, none⟩) (block_lt_of_cell H1.out)).trans H1.out
        have c2' := (hb.cell (p := ⟨c, 1, none⟩) (block_lt_of_cell H2.out)).trans H2.out
        have HU1 := Nu.hid (HL1.out.later hb)
        have HU2 := Nu.hid (HL2.out.later hb)
        have g1 := HL1.out.len
        have g2 := HL2.out.len
        clear hb
        rcases hcase with ⟨rfl, ho⟩ | ⟨rfl, ho⟩ | ⟨rfl, ho⟩
        · have HO := Nu.hid ho
          have hlen : ([] : List Int).length + l1.length ≤ 17592186044000 := by simp; omega
          clear ho g1 g2
          go_wp2_with (at_builtin; refine wpList_extend rfl _ _ rfl _ w.heap.size _ [] l1 HO.out a1 n1 c1 HU1.out hs hlen rfl rfl ?_; refine Hid.out ?_)
          refine Nu.hid ?_
          intro v' w3 hr3 hb3
          have HR3 := Nu.hid hr3
          have HB3 := Nu.hid (HB.out.trans hb3)
          clear hr3 hb3
          go_wp2
          go_roundw
          case rel => exact ⟨HB3.out, .inr (.inl ⟨by first | rfl | go_num, by have := HR3.out; simpa using this⟩)⟩
          case measure => simp [intOf]
        · have HO := Nu.hid ho
          have hlen : l1.length + l2.length ≤ 17592186044000 := by omega
          clear ho g1 g2
          go_wp2_with (at_builtin; refine wpList_extend rfl _ _ rfl _ w.heap.size _ l1 l2 HO.out a2 n2 c2 HU2.out hs hlen rfl rfl ?_; refine Hid.out ?_)
          refine Nu.hid ?_
          intro v' w3 hr3 hb3
          have HR3 := Nu.hid hr3
          have HB3 := Nu.hid (HB.out.trans hb3)
          clear hr3 hb3
          go_wp2
          go_roundw
          case rel => exact ⟨HB3.out, .inr (.inr ⟨by first | rfl | go_num, HR3.out⟩)⟩
          case measure => simp [intOf]
        · have HO := Nu.hid ho
          clear ho g1 g2
          go_wp2
          go_ret
          exact ⟨_, rfl, HO.out, HB.out⟩
end Go.Proofs.Ytdhaaodalchpkaa
