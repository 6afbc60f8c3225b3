/-
  The edges by the new names of their ends.
-/
import Derived.Test.YtdkckdbpbdhoaaaEdSo
import Derived.Test.YtdkckdbpbdhoaaaMgC
import Derived.Test.YtdkckdbpbdhoaaaMgA
import Derived.Test.YtdkckdbpbdhoaaaMgB
import Derived.Test.YtdkckdbpbdhoaaaLwQ
namespace Go.Proofs.Ytdkckdbpbdhoaaa
open Go.RowKit Go.Sort

set_option maxRecDepth 100000 in
set_option maxHeartbeats 8000000 in
theorem rename_any (no : Option Addr) (nc q : Nat) (ns : List Int) (ao : Option Addr) (cap : Nat) (es : List (Int × Int)) (w : World) (he : EdgesAt w ao es) (hl : es.length ≤ 4194304) (hq : ns.length = q) (hn : IntsAt w no ns)
    (hf : Ed.Fits ns es) (hin : Ed.Inj ns) (hnd : es.Nodup) (hlo : ∀ x ∈ ns, -1 ≤ x) :
    Calls Try.prog 46 #[.slice no q nc, .slice ao es.length cap] w fun e w' => ∃ v, e = .returned v ∧ OwnE w' w.heap.size v (Ed.named ns es) ∧ Below w.heap.size w w' := by
  have HE := Nu.hid he
  have HN := Nu.hid hn
  have HQ := Nu.hid hq
  have HF := Nu.hid hf
  have HI := Nu.hid hin
  have HND := Nu.hid hnd
  have HLO := Nu.hid hlo
  clear he hn hq hf hin hnd hlo
  go_enter Try.func46, Try.ntmps46
  go_wp2
  go_loopw [5, 12] (fun v c wr => ∃ (k : Nat) (L : List (Int × Int)), k ≤ es.length ∧ c = .int .i64 k ∧ L = (Ed.pr ns (es.take k)).map Si.norm ∧ OwnE wr w.heap.size v L ∧ Below w.heap.size w wr) (fun _ c _ => es.length - (intOf c).toNat)
  case atStart => exact ⟨0, [], Nat.zero_le _, rfl, by simp [Ed.pr], OwnE.nil _ _, Below.refl _ _⟩
  case round =>
    obtain ⟨k, L, hk, rfl, hL, hrow, hb⟩ := hrel
    have HROW := Nu.hid hrow
    have HB := Nu.hid hb
    have HL := Nu.hid hL
    have hs0 : w.heap.size ≤ wr.heap.size := hb.size
    have hLl : L.length ≤ k := by
      rw [hL, List.length_map]
      refine Nat.le_trans (Ed.pr_length _ _) ?_
      rw [List.length_take]
      omega
    by_cases hlt : k < es.length
    · have hlti : (k : Int) < (es.length : Int) := by omega
      have hk0 : (0 : Int) ≤ (k : Int) := by omega
      obtain ⟨p, hp⟩ : ∃ p, es[k]? = some p := ⟨_, List.getElem?_eq_getElem hlt⟩
      obtain ⟨b, o, rfl, c0, c1⟩ := (HE.out.later hb) k p hp
      have hbl : b < wr.heap.size := block_lt_of_cell c0
      obtain ⟨u, v, rfl, huv, hvl, hu, hv⟩ := HF.out.at (List.mem_of_getElem? hp)
      dsimp only at c0 c1 hu hv
      have HSO := Nu.hid (Ed.pr_some (ns := ns) hp)
      have HSK := Nu.hid (Ed.pr_skip (ns := ns) hp)
      dsimp only at HSO HSK
      generalize hx : Ed.nth ns (u : Int) = x at hu hv HSO HSK
      generalize hy : Ed.nth ns (v : Int) = y at hu hv HSO HSK
      obtain ⟨b', o', rfl, d0⟩ := (HN.out.later hb) u x hu
      obtain ⟨b'', o'', eb, d1⟩ := (HN.out.later hb) v y hv
      cases eb
      have hbl' : b' < wr.heap.size := block_lt_of_cell d0
      have hx1 := HLO.out x (List.mem_of_getElem? hu)
      have hy1 := HLO.out y (List.mem_of_getElem? hv)
      have hu0 : (0 : Int) ≤ (u : Int) := by omega
      have hv0 : (0 : Int) ≤ (v : Int) := by omega
      have huq : (u : Int) < (q : Int) := by have := HQ.out; omega
      have hvq : (v : Int) < (q : Int) := by have := HQ.out; omega
      have HEB : Hid ((wr.alloc (.cells #[.int .i64 (u : Int), .int .i64 (v : Int)] 26)).heap[wr.heap.size]? = some (.cells #[.int .i64 (u : Int), .int .i64 (v : Int)] 26 (0, 0))) := heap_alloc_new wr _
      clear hrow hb hL hp hu hv hx hy huv hvl
      go_wp2
      go_quiet (fail)
      have HEB2 : Hid (((wr.alloc (.cells #[.int .i64 (u : Int), .int .i64 (v : Int)] 26)).drewN nq).heap[wr.heap.size]? = some (.cells #[.int .i64 (u : Int), .int .i64 (v : Int)] 26 (0, 0))) := HEB.out
      have HB2 := Nu.hid (below_drewN (HB.out.alloc hs0 (.cells #[.int .i64 (u : Int), .int .i64 (v : Int)] 26)) nq)
      have HROW2 : Hid (OwnE ((wr.alloc (.cells #[.int .i64 (u : Int), .int .i64 (v : Int)] 26)).drewN nq) w.heap.size u5 L) := HROW.out.alloc _
      generalize (wr.alloc (.cells #[.int .i64 (u : Int), .int .i64 (v : Int)] 26)).drewN nq = w2 at HEB2 HB2 HROW2 ⊢
      have hs2 : w.heap.size ≤ w2.heap.size := HB2.out.size
      have hsw2 := lt_of_block HEB2.out
      clear HEB c0 c1 d0 d1
      by_cases hxn : x = -1
      · have hbe : (x != (-1)) = false := by simp [hxn]
        have HXN := Nu.hid hxn
        clear hxn hx1 hy1
        go_wp2
        go_roundw
        case rel => exact ⟨k + 1, L, by omega, by go_num, by rw [HSK.out (by have := HXN.out; omega), HL.out], HROW2.out, HB2.out⟩
        case measure => simp [intOf]; omega
      · have hbe : (x != (-1)) = true := by simp [hxn]
        by_cases hyn : y = -1
        · have hbf : (y != (-1)) = false := by simp [hyn]
          have HYN := Nu.hid hyn
          clear hxn hyn hx1 hy1
          go_wp2
          go_roundw
          case rel => exact ⟨k + 1, L, by omega, by go_num, by rw [HSK.out (by have := HYN.out; omega), HL.out], HROW2.out, HB2.out⟩
          case measure => simp [intOf]; omega
        · have hbf : (y != (-1)) = true := by simp [hyn]
          have hx0 : 0 ≤ x := by omega
          have hy0 : 0 ≤ y := by omega
          have HX0 := Nu.hid hx0
          have HY0 := Nu.hid hy0
          clear hxn hyn hx1 hy1
          go_wp2_with (at_builtin; refine wpList_pushE rfl _ _ rfl _ w.heap.size _ L _ _ HROW2.out hs2 (by omega) rfl rfl ?_; refine Hid.out ?_)
          refine Nu.hid ?_
          intro v' w3 hrow3 hb3
          have HROW3 : Hid (OwnE w3 w.heap.size v' (L ++ [Si.norm (x, y)])) := by
            first
              | exact hrow3
              | (rw [show Si.norm (x, y) = (if y < x then y else x, if x < y then y else x) from by unfold Si.norm; ext <;> simp <;> split <;> omega]; exact hrow3)
              | (rw [show Si.norm (x, y) = (if y < x then y else x, if y < x then x else y) from by unfold Si.norm; ext <;> simp <;> split <;> omega]; exact hrow3)
          have HB3 := Nu.hid (HB2.out.trans hb3)
          clear hrow3 hb3
          go_wp2
          go_roundw
          case rel =>
            refine ⟨k + 1, _, by omega, by go_num, ?_, HROW3.out, HB3.out⟩
            rw [HSO.out ⟨HX0.out, HY0.out⟩, List.map_append, ← HL.out]
            rfl
          case measure => simp [intOf]; omega
    · have hd : ¬ ((k : Int) < (es.length : Int)) := by omega
      have hLe : L = (Ed.pr ns es).map Si.norm := by rw [hL, List.take_of_length_le (by omega)]
      have HLE := Nu.hid hLe
      have HST := Nu.hid (esort_own w.heap.size u5 L wr hrow (by omega))
      clear hrow hb hL hLe
      go_wp2_with (go_at_call 55; refine HST.out.mono ?_; rintro e w3 ⟨rfl, l, hp, hsl, hown, hb3⟩; refine Hid.out ?_)
      refine Nu.hid ?_
      have HOWN := Nu.hid hown
      have HB3 := Nu.hid (HB.out.trans hb3)
      have HN : Hid (l = Ed.named ns es) := Ed.named_of_sort HI.out HF.out HND.out (by rw [← HLE.out]; exact hp) hsl
      clear hown hb3 hp hsl
      go_wp2
      go_ret
      exact ⟨_, rfl, by rw [← HN.out]; exact HOWN.out, HB3.out⟩

end Go.Proofs.Ytdkckdbpbdhoaaa
