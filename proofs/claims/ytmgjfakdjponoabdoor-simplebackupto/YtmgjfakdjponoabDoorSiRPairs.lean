/-
  The ends of a graph's edges, as a list of pairs of its own.
-/
import Derived.Test.YtmgjfakdjponoabDoorSiREq
import Derived.Test.YtmgjfakdjponoabDoorSiPairs
import Derived.Deep.RegionLaw
namespace Go.Proofs.YtmgjfakdjponoabDoor
open Go.RowKit

def RPairsPost (es : List (Int × Int)) (w : World) (e : Ending) (w' : World) : Prop :=
  ∃ v, e = .returned v ∧ OwnP w' w.heap.size v es ∧ Below w.heap.size w w'

set_option maxRecDepth 100000 in
set_option maxHeartbeats 4000000 in
theorem rpairs_any (n : Int) (ao : Option Addr) (ca : Nat) (es : List (Int × Int)) (w : World) (he : EdgesAt w ao es) (hl : es.length * 16 ≤ 140737488355328) :
    Calls Tryd.prog 9 #[graphVal n ao es.length ca] w (RPairsPost es w) := by
  obtain ⟨i0, hi, hz0, hz1, hz2⟩ := info_parts Tryd.infoTwo
  have HE := Nu.hid he
  clear he
  unfold graphVal
  go_enter Tryd.func9, Tryd.ntmps9
  go_wp2
  go_loopw [3, 4] (fun v c wr => ∃ (k : Nat) (L : List (Int × Int)), k ≤ es.length ∧ c = .int .i64 k ∧ L = es.take k ∧ OwnP wr (w.heap.size + 1) v L ∧ wr.heap[w.heap.size]? = some (.cells #[.int .i64 n, .slice ao es.length ca] 24 (0, 0)) ∧ Below w.heap.size w wr) (fun _ c _ => es.length - (intOf c).toNat)
  case atStart => exact ⟨0, [], Nat.zero_le _, rfl, by simp, OwnP.nil _ _, heap_alloc_new w _, (Below.refl _ _).alloc (Nat.le_refl _) _⟩
  case round =>
    obtain ⟨k, L, hk, rfl, hL, hrow, hg1, hb⟩ := hrel
    obtain ⟨a0, a1, -⟩ := pair_cells hg1
    have hs1 := lt_of_block hg1
    have hLl : L.length = k := by rw [hL]; simp; omega
    have HG1 := Nu.hid hg1
    have HL := Nu.hid hL
    have HROW := Nu.hid hrow
    have HB := Nu.hid hb
    have HLL := Nu.hid hLl
    have hs0 : w.heap.size ≤ wr.heap.size := hb.size
    clear hg1 hL hLl
    by_cases hlt : k < es.length
    · have hlti : (k : Int) < (es.length : Int) := by omega
      have hk0 : (0 : Int) ≤ (k : Int) := by omega
      obtain ⟨p, hp⟩ : ∃ p, es[k]? = some p := ⟨_, List.getElem?_eq_getElem hlt⟩
      obtain ⟨b, o, rfl, c0, c1⟩ := (HE.out.later hb) k p hp
      have hbl : b < wr.heap.size := block_lt_of_cell c0
      have HSN : Hid (es.take (k + 1) = L ++ [p]) := by
        show es.take (k + 1) = L ++ [p]
        rw [HL.out]
        exact Si.take_snoc hp
      clear hp hb hrow
      go_wp2_with fail
      go_region_law
        (refine step_append_lies _ (by rfl) _ _ _ (by rfl) (w.heap.size + 1) 34 i0 _ 2 16 Tryd.underlying32 hi hz0 hz1 hz2 rfl (by omega) _ L.length (flatE L) (by rfl) ((World.ownsRow.alloc HROW.out _).drew)
            ⟨wr.heap.size, 0, none⟩ 1 1 [.int .i64 p.1, .int .i64 p.2] (by rfl) (by rfl) (World.news_of_block (cs := #[.int .i64 p.1, .int .i64 p.2]) (t := 34) (fr := (0, 0)) (heap_alloc_new wr _)) (by simp [Value.oneCell'])
            (by omega) (by rw [HLL.out]; unfold maxLen; omega) (by rw [HLL.out]; omega) (by simp; omega) (wr.heap.size + 1) (by simp) ?_; intro gg cap1 w3 hrow3 hg3 hat hlt3)
      all_goals go_wp2
      all_goals
        first
          | (go_roundw
             case rel =>
               refine ⟨k + 1, _, by omega, by go_num, HSN.out.symm, ?_, (hg3.block _ (by simp; omega) (fun h => HROW.out.far (by omega) h.symm)).trans ((Below.heap_alloc _ _ _ hs1).trans HG1.out), (HB.out.alloc hs0 _).drew.grown hg3 (by simp; omega) (fun j hj => by have := (World.ownsRow.lt HROW.out j hj).1; omega)⟩
               unfold OwnP
               rw [flatE_snoc, List.length_append]
               exact hrow3
             case measure => simp [intOf]; omega)
    · have hd : ¬ ((k : Int) < (es.length : Int)) := by omega
      have hLe : L = es := by
        rw [HL.out]
        exact List.take_of_length_le (by omega)
      have HLE := Nu.hid hLe
      clear hLe hb hrow
      go_wp2
      go_ret
      refine ⟨_, rfl, ?_, HB.out⟩
      rw [← HLE.out]
      exact HROW.out.lower (by omega)

end Go.Proofs.YtmgjfakdjponoabDoor
