/-
  The document's own stands and degree.
-/
import Derived.Test.YtfkmldopfhdbkaaRoRH
import Derived.Test.YtfkmldopfhdbkaaMg03
import Derived.Test.YtfkmldopfhdbkaaMg07
namespace Go.Proofs.Ytfkmldopfhdbkaa
open Go.RowKit Go.Sort

set_option maxRecDepth 100000 in
set_option maxHeartbeats 4000000 in
theorem stands_any (ao : Option Addr) (ca n k : Nat) (l : List Int) (x : Int) (w : World) (hn : l.length = n) (ha : IntsAt w ao l) (hk : k ≤ n) (hl : n ≤ 4611686018427387904) :
    Calls Try.prog 78 #[.slice ao n ca, .int .i64 (k : Int), .int .i64 x] w fun e w' => e = .returned (.bool (decide (x ∈ l.take k))) ∧ w' = w := by
  have HA := Nu.hid ha
  have HN := Nu.hid hn
  clear ha hn
  go_enter Try.func78, Try.ntmps78
  go_wp2
  go_loopw [7] (fun c wr => ∃ i : Nat, i ≤ k ∧ c = .int .i64 i ∧ x ∉ l.take i ∧ wr = w) (fun c _ => k - (intOf c).toNat)
  case atStart => exact ⟨0, Nat.zero_le _, rfl, by simp, rfl⟩
  case round =>
    obtain ⟨i, hi, rfl, hno, hw⟩ := hrel
    obtain rfl := hw.symm
    have HNO := Nu.hid hno
    clear hno hw
    by_cases hlt : i < k
    · have hlti : (i : Int) < (k : Int) := by omega
      have hi0 : (0 : Int) ≤ (i : Int) := by omega
      have hin : (i : Int) < (n : Int) := by omega
      obtain ⟨y, hy⟩ : ∃ y, l[i]? = some y := ⟨_, List.getElem?_eq_getElem (by have := HN.out; omega)⟩
      obtain ⟨b, o, rfl, c0⟩ := HA.out i y hy
      have HY := Nu.hid hy
      clear hy
      by_cases e1 : y = x
      · have t1 : (y == x) = true := by simp [e1]
        have HV := Nu.hid (show decide (x ∈ l.take k) = true by
          rw [decide_eq_true_eq, ← e1]
          exact List.mem_of_getElem? (i := i) (by rw [List.getElem?_take, if_pos hlt]; exact HY.out))
        clear e1
        go_wp2
        go_ret
        exact ⟨by rw [HV.out]; rfl, rfl⟩
      · have t1 : (y == x) = false := by simp [e1]
        have HNO2 := Nu.hid (show x ∉ l.take (i + 1) by
          rw [Ro.take_snoc' HY.out, List.mem_append, List.mem_singleton]
          rintro (h | h)
          · exact HNO.out h
          · exact e1 h.symm)
        clear e1
        go_wp2
        go_roundw
        case rel => exact ⟨i + 1, by omega, by go_num, HNO2.out, by first | rfl | trivial⟩
        case measure => simp [intOf]; omega
    · have hlti : ¬ (i : Int) < (k : Int) := by omega
      obtain rfl : i = k := by omega
      have HV := Nu.hid (show decide (x ∈ l.take i) = false by rw [decide_eq_false_iff_not]; exact HNO.out)
      go_wp2
      go_ret
      exact ⟨by rw [HV.out]; rfl, rfl⟩

set_option maxRecDepth 100000 in
set_option maxHeartbeats 4000000 in
theorem r11degree_any (n : Nat) (ao : Option Addr) (ca : Nat) (es : List (Int × Int)) (v : Nat) (w : World) (he : EdgesAt w ao es) (hv : Si.Val n es) :
    Calls Try.prog 79 #[.agg #[.int .i64 (n : Int), .slice ao es.length ca], .int .i64 (v : Int)] w fun e w' => e = .returned (.int .i64 (Ro.deg es v : Int)) ∧ Below w.heap.size w w' := by
  have hb0 : Below w.heap.size w (w.alloc (.cells #[.int .i64 (n : Int), .slice ao es.length ca] 24)) := (Below.refl _ _).alloc (Nat.le_refl _) _
  have hfew := hv.few
  have HE := Nu.hid he
  have HVAL := Nu.hid hv
  have HB0 := Nu.hid hb0
  have HG0 : Hid ((w.alloc (.cells #[.int .i64 (n : Int), .slice ao es.length ca] 24)).heap[w.heap.size]? = some (.cells #[.int .i64 (n : Int), .slice ao es.length ca] 24 (0, 0))) := heap_alloc_new w _
  have hmul : IntKind.i64.wrap (2 * (es.length : Int)) = 2 * (es.length : Int) := by rw [IntKind.wrap_i64]; omega
  clear he hv hb0
  go_enter Try.func79, Try.ntmps79
  go_wp2
  go_loopw [5, 6] (fun c5 c6 wr => ∃ j : Nat, j ≤ 2 * es.length ∧ c6 = .int .i64 (j : Int) ∧ c5 = .int .i64 ((Cs.out es v j).length : Int) ∧ wr.heap[w.heap.size]? = some (.cells #[.int .i64 (n : Int), .slice ao es.length ca] 24 (0, 0)) ∧ Below w.heap.size w wr) (fun _ c6 _ => 2 * es.length - (intOf c6).toNat)
  case atStart => exact ⟨0, Nat.zero_le _, rfl, rfl, HG0.out, HB0.out⟩
  case round =>
    obtain ⟨j, hj, rfl, rfl, hg, hb⟩ := hrel
    obtain ⟨g0, g1, -⟩ := pair_cells hg
    have HG := Nu.hid hg
    have HB := Nu.hid hb
    have hol := Cs.out_len_le (es := es) (v := v) j
    have hos := Cs.out_len_succ (es := es) (v := v) j
    have HOS := Nu.hid hos
    clear hg hb hos
    by_cases hlt : j < 2 * es.length
    · have hlti : (j : Int) < 2 * (es.length : Int) := by omega
      have HF := Nu.hid (r11from_any n ao ca es j wr (HE.out.later HB.out) HVAL.out hlt)
      by_cases hf : Cs.fr es j = v
      · have t1 : ((Cs.fr es j : Int) == (v : Int)) = true := by simp; omega
        have HO : Hid ((Cs.out es v (j + 1)).length = (Cs.out es v j).length + 1) := by have := HOS.out; rw [if_pos hf] at this; exact this
        clear hf
        go_wp2_with (go_at_call 82; refine HF.out.mono ?_; rintro e w2 ⟨rfl, hb2⟩; refine Hid.out ?_)
        refine Nu.hid ?_
        have HG2 := Nu.hid ((hb2.block _ (lt_of_block HG.out)).trans HG.out)
        have HB2 := Nu.hid (HB.out.trans (hb2.mono HB.out.size))
        clear hb2 g0 g1
        go_wp2
        go_roundw
        case rel => exact ⟨j + 1, by omega, by go_num, by rw [HO.out]; go_num, HG2.out, HB2.out⟩
        case measure => simp [intOf]; omega
      · have t1 : ((Cs.fr es j : Int) == (v : Int)) = false := by simp; omega
        have HO : Hid ((Cs.out es v (j + 1)).length = (Cs.out es v j).length) := by have := HOS.out; rw [if_neg hf] at this; exact this
        clear hf
        go_wp2_with (go_at_call 82; refine HF.out.mono ?_; rintro e w2 ⟨rfl, hb2⟩; refine Hid.out ?_)
        refine Nu.hid ?_
        have HG2 := Nu.hid ((hb2.block _ (lt_of_block HG.out)).trans HG.out)
        have HB2 := Nu.hid (HB.out.trans (hb2.mono HB.out.size))
        clear hb2 g0 g1
        go_wp2
        go_roundw
        case rel => exact ⟨j + 1, by omega, by go_num, by rw [HO.out], HG2.out, HB2.out⟩
        case measure => simp [intOf]; omega
    · have hlti : ¬ (j : Int) < 2 * (es.length : Int) := by omega
      obtain rfl : j = 2 * es.length := by omega
      go_wp2
      go_ret
      exact ⟨rfl, HB.out⟩

end Go.Proofs.Ytfkmldopfhdbkaa
