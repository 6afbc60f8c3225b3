/-
  The graph that pairs make, as the program makes it.
-/
import Derived.Test.YtmgjfakdjponoabDoorSiMove
import Derived.Test.YtmgjfakdjponoabDoorSiSort
import Derived.Test.YtmgjfakdjponoabDoorSiWithin
namespace Go.Proofs.YtmgjfakdjponoabDoor
open Go.RowKit Go.Sort Go.Maps

/-- The graph of pairs, and the error's number. -/
def Si.mk (n : Int) (ps : List (Int × Int)) : Int × List (Int × Int) × Int :=
  if n < 0 ∨ 1048576 < n ∨ Si.inside n ps = false then (0, [], 2) else if 4194304 < (Si.made [] ps).length then (0, [], 141) else (n, Si.made [] ps, 0)

def MakePost (n : Int) (ps : List (Int × Int)) (w : World) (e : Ending) (w' : World) : Prop :=
  ∃ v, e = .returned (.tuple #[.agg #[.int .i64 (Si.mk n ps).1, v], .int .i64 (Si.mk n ps).2.2]) ∧ OwnE w' w.heap.size v (Si.mk n ps).2.1 ∧ Below w.heap.size w w'

/-- The same, of the graph and the error's number themselves. -/
def MakeP (r : Int × List (Int × Int) × Int) (w : World) (e : Ending) (w' : World) : Prop :=
  ∃ v, e = .returned (.tuple #[.agg #[.int .i64 r.1, v], .int .i64 r.2.2]) ∧ OwnE w' w.heap.size v r.2.1 ∧ Below w.heap.size w w'

set_option maxRecDepth 100000 in
set_option maxHeartbeats 8000000 in
theorem make_any (n : Int) (ao : Option Addr) (cap : Nat) (ps : List (Int × Int)) (w : World) (he : EdgesAt w ao ps) (hl : ps.length ≤ 140737488355328) :
    Calls Tryd.prog 10 #[.int .i64 n, .slice ao ps.length cap] w (MakePost n ps w) := by
  have HE := Nu.hid he
  have hwi := fun W (hb : Below w.heap.size w W) => within_any n ao cap ps W (he.later hb) (by omega)
  have HWI := Nu.hid hwi
  clear he hwi
  have hbwa : Below w.heap.size w (w.alloc (.cells #[.int .i64 0, .slice none 0 0] 24)) := (Below.refl _ _).alloc (Nat.le_refl _) _
  have HBWA := Nu.hid hbwa
  clear hbwa
  by_cases h1 : n < 0
  · have hm : Si.mk n ps = (0, [], 2) := by unfold Si.mk; rw [if_pos (.inl h1)]
    unfold MakePost
    rw [hm]
    clear hm
    go_enter Tryd.func10, Tryd.ntmps10
    go_wp2
    refine bodyPost_ret (v := .tuple #[.agg #[.int .i64 0, .slice none 0 0], .int .i64 2]) (by simp [results, Tryd.results10, go_sem]) rfl ?_
    exact ⟨_, rfl, OwnE.nil _ _, HBWA.out⟩
  by_cases h2 : 1048576 < n
  · have hm : Si.mk n ps = (0, [], 2) := by unfold Si.mk; rw [if_pos (.inr (.inl h2))]
    unfold MakePost
    rw [hm]
    clear hm
    go_enter Tryd.func10, Tryd.ntmps10
    go_wp2
    refine bodyPost_ret (v := .tuple #[.agg #[.int .i64 0, .slice none 0 0], .int .i64 2]) (by simp [results, Tryd.results10, go_sem]) rfl ?_
    exact ⟨_, rfl, OwnE.nil _ _, HBWA.out⟩
  cases hin : Si.inside n ps with
  | false =>
    have hm : Si.mk n ps = (0, [], 2) := by unfold Si.mk; rw [if_pos (.inr (.inr hin))]
    unfold MakePost
    rw [hm]
    rw [hin] at HWI
    clear hm hin
    go_enter Tryd.func10, Tryd.ntmps10
    go_wp2_with (go_at_call 23; refine (HWI.out _ HBWA.out).mono ?_; rintro e w1 ⟨rfl, hb1⟩; refine Hid.out ?_)
    refine Nu.hid ?_
    have hG : w1.heap[w.heap.size]? = some (.cells #[.int .i64 0, .slice none 0 0] 24 (0, 0)) := (hb1.block _ (by simp)).trans (heap_alloc_new w _)
    have HB1 := Nu.hid (HBWA.out.trans (hb1.mono HBWA.out.size))
    have hs1 := lt_of_block hG
    obtain ⟨g0, g1, gf⟩ := pair_cells hG
    have HG := Nu.hid hG
    clear hb1 hG
    go_wp2
    obtain ⟨r0, r1, -⟩ := pair_cells (pair_set HG.out (.int .i64 0) (.slice none 0 0))
    refine bodyPost_ret (v := .tuple #[.agg #[.int .i64 0, .slice none 0 0], .int .i64 2]) (by simp [results, Tryd.results10, go_sem, r0, r1]) rfl ?_
    exact ⟨_, rfl, OwnE.nil _ _, (HB1.out.setCell (by simp) _).setCell (by simp) _⟩
  | true =>
    have hin64 : ∀ (j : Nat) (p : Int × Int), ps[j]? = some p → In64 p := fun j p hj => by
      have := Si.inside_at hin hj
      unfold Si.inn at this
      unfold In64
      omega
    have HIN64 := Nu.hid hin64
    rw [hin] at HWI
    have HMK := Nu.hid (show Si.mk n ps = _ from by unfold Si.mk; rw [if_neg (by simp [hin]; omega)])
    have HINS := Nu.hid hin
    clear hin hin64
    go_enter Tryd.func10, Tryd.ntmps10
    go_wp2_with (go_at_call 23; refine (HWI.out _ HBWA.out).mono ?_; rintro e w1 ⟨rfl, hb1⟩; refine Hid.out ?_)
    refine Nu.hid ?_
    have HB1 := Nu.hid hb1
    have HBW1 := Nu.hid (HBWA.out.trans (hb1.mono HBWA.out.size))
    clear hb1
    have hga := sgather_any ao cap ps w1 (HE.out.later HBW1.out) hl HIN64.out
    have HGA := Nu.hid hga
    clear hga
    go_wp2_with (go_at_call 24; refine HGA.out.mono ?_; refine Hid.out ?_)
    refine Nu.hid ?_
    rintro e w2 ⟨D, k, l, hl0, hk, hor, rfl, hset, hown, hb2⟩
    have hs1 : w.heap.size + 1 ≤ w1.heap.size := by have := HB1.out.size; simpa using this
    have hs12 : w1.heap.size ≤ w2.heap.size := hb2.size
    have HB2 := Nu.hid (HB1.out.trans (hb2.mono HB1.out.size))
    have HOWN := Nu.hid hown
    have HSET := Nu.hid hset
    have HL0 := Nu.hid hl0
    clear hl0 hset hown hb2
    by_cases hbig : 4194304 < l.length
    · have hD : (4194304 : Int) < (Maps.size D : Int) := by rw [HSET.out.size]; omega
      have hmb : 4194304 < (Si.made [] ps).length := by
        have := Si.made_take ps k
        rw [← HL0.out] at this
        omega
      have HM : Hid (Si.mk n ps = (0, [], 141)) := by
        show Si.mk n ps = (0, [], 141)
        rw [HMK.out, if_pos hmb]
      have hG : w2.heap[w.heap.size]? = some (.cells #[.int .i64 0, .slice none 0 0] 24 (0, 0)) := (HB2.out.block _ (by simp)).trans (heap_alloc_new w _)
      have hs2 := lt_of_block hG
      obtain ⟨g0, g1, gf⟩ := pair_cells hG
      have HG := Nu.hid hG
      have HBW2 := Nu.hid (HBWA.out.trans (HB2.out.mono HBWA.out.size))
      clear hG hmb
      go_wp2_with (at_len; refine wpList_len_own _ rfl _ _ rfl 52 81 Tryd.underlying60 (unitElem (H := Unit)) w1.heap.size k D rfl HOWN.out ?_)
      obtain ⟨r0, r1, -⟩ := pair_cells (pair_set HG.out (.int .i64 0) (.slice none 0 0))
      refine bodyPost_ret (v := .tuple #[.agg #[.int .i64 0, .slice none 0 0], .int .i64 141]) (by simp [results, Tryd.results10, go_sem, r0, r1]) rfl ?_
      unfold MakePost
      rw [HM.out]
      exact ⟨_, rfl, OwnE.nil _ _, (HBW2.out.setCell (by simp) _).setCell (by simp) _⟩
    · have hD : ¬ ((4194304 : Int) < (Maps.size D : Int)) := by rw [HSET.out.size]; omega
      have hkl : k = ps.length := by rcases hor with h | h; exact h; exact absurd h hbig
      have hle : l = Si.made [] ps := by rw [HL0.out, hkl, List.take_length]
      have HLE := Nu.hid hle
      have hta := take_any w1.heap.size k D l ao cap ps (w.alloc (.cells #[.int .i64 0, .slice none 0 0] 24)) w2 (HE.out.later HBWA.out) HB2.out (by simp; omega) hl HIN64.out HOWN.out HSET.out (by omega)
      have HTA := Nu.hid hta
      clear hta hkl hle hor
      go_wp2_with (first
        | (at_len; refine wpList_len_own _ rfl _ _ rfl 52 81 Tryd.underlying60 (unitElem (H := Unit)) w1.heap.size k D rfl HOWN.out ?_)
        | (go_at_call 25; refine HTA.out.mono ?_; refine Hid.out ?_))
      refine Nu.hid ?_
      rintro e w3 ⟨g, cp, acc, rfl, htk, hal, hrow, hb3⟩
      have HB3 := Nu.hid hb3
      have HROW3 := Nu.hid hrow
      have HTK := Nu.hid htk
      have hso := sort_any _ g cp acc w3 hrow (by omega)
      have HSO := Nu.hid hso
      have hgw : w2.heap.size ≤ g := (World.ownsRow.lt hrow g rfl).1
      clear hb3 hrow htk hso
      go_wp2_with (go_at_call 26; refine HSO.out.mono ?_; refine Hid.out ?_)
      refine Nu.hid ?_
      rintro e w4 ⟨rfl, l', hll, hperm, hsorted, hrow4, hg4⟩
      have hfin : l' = Si.made [] ps := Si.sorted_made (Si.made_sorted ps) HTK.out.nodup (by have := HTK.out; rw [HLE.out] at this; exact this.all) hperm hsorted
      have HFIN := Nu.hid hfin
      have hB4 := (HB3.out.grown hg4 HB3.out.size (fun j hj => by cases hj; simp; omega))
      have hG : w4.heap[w.heap.size]? = some (.cells #[.int .i64 0, .slice none 0 0] 24 (0, 0)) := (hB4.block _ (by simp)).trans (heap_alloc_new w _)
      have hs4 := lt_of_block hG
      obtain ⟨g0, g1, gf⟩ := pair_cells hG
      have HG := Nu.hid hG
      have HBW4 := Nu.hid (HBWA.out.trans (hB4.mono HBWA.out.size))
      have HROW4 := Nu.hid hrow4
      have HM : Hid (Si.mk n ps = (n, Si.made [] ps, 0)) := by
        show Si.mk n ps = _
        rw [HMK.out, if_neg (by rw [← HLE.out]; exact hbig)]
      clear hfin hperm hsorted hrow4 hg4 hB4 hG
      go_wp2
      obtain ⟨r0, r1, -⟩ := pair_cells (pair_set HG.out (.int .i64 n) (.slice (some ⟨g, 0, none⟩) acc.length cp))
      refine bodyPost_ret (v := .tuple #[.agg #[.int .i64 n, .slice (some ⟨g, 0, none⟩) acc.length cp], .int .i64 0]) (by simp [results, Tryd.results10, go_sem, r0, r1]) rfl ?_
      unfold MakePost
      rw [HM.out]
      refine ⟨_, rfl, ?_, (HBW4.out.setCell (by simp) _).setCell (by simp) _⟩
      have := HROW4.out.set2 (A := w.heap.size) (b := w.heap.size) (by omega) (.int .i64 n) (.slice (some ⟨g, 0, none⟩) acc.length cp)
      rw [HFIN.out] at this
      exact this

end Go.Proofs.YtmgjfakdjponoabDoor
