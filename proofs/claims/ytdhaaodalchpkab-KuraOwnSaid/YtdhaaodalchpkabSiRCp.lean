/-
  The document's own Copy.
-/
import Derived.Test.YtdhaaodalchpkabMgI
import Derived.Test.YtdhaaodalchpkabSiValid
import Derived.Test.YtdhaaodalchpkabMgA
import Derived.Deep.QuietTactic
import Derived.BigQuiet
namespace Go.Proofs.Ytdhaaodalchpkab
open Go.RowKit Go.Sort

set_option maxRecDepth 100000 in
set_option maxHeartbeats 4000000 in
theorem rcopy_any (n : Int) (ao : Option Addr) (ca : Nat) (es : List (Int × Int)) (w : World) (he : EdgesAt w ao es) (hl : es.length * 16 ≤ 140737488355328) :
    Calls Try.prog 5 #[graphVal n ao es.length ca] w fun e w' => ∃ v, e = .returned (.agg #[.int .i64 n, v]) ∧ OwnE w' w.heap.size v es ∧ Below w.heap.size w w' := by
  obtain ⟨i0, hi, hz0, hz1, hz2⟩ := info_parts Try.infoEdge
  have HE := Nu.hid he
  clear he
  unfold graphVal
  go_enter Try.func5, Try.ntmps5
  go_wp2
  go_loopw [3, 4] (fun v c wr => ∃ (k : Nat) (L : List (Int × Int)), k ≤ es.length ∧ c = .int .i64 k ∧ L = es.take k ∧ OwnE wr (w.heap.size + 2) v L ∧ wr.heap[w.heap.size]? = some (.cells #[.int .i64 n, .slice ao es.length ca] 24 (0, 0)) ∧ wr.heap[w.heap.size + 1]? = some (.cells #[.int .i64 0, .slice none 0 0] 24 (0, 0)) ∧ Below w.heap.size w wr) (fun _ c _ => es.length - (intOf c).toNat)
  case atStart =>
    refine ⟨0, [], Nat.zero_le _, rfl, by simp, OwnE.nil _ _, ?_, ?_, ((Below.refl _ _).alloc (Nat.le_refl _) _).alloc (by simp) _⟩
    · rw [Below.heap_alloc _ _ _ (by simp)]
      exact heap_alloc_new w _
    · have := heap_alloc_new (w.alloc (.cells #[.int .i64 n, .slice ao es.length ca] 24)) (.cells #[.int .i64 0, .slice none 0 0] 24)
      simpa using this
  case round =>
    obtain ⟨k, L, hk, rfl, hL, hrow, hg1, hg2, hb⟩ := hrel
    obtain ⟨a0, a1, -⟩ := pair_cells hg1
    obtain ⟨b0, b1, bf⟩ := pair_cells hg2
    have hs1 := lt_of_block hg1
    have hs2 := lt_of_block hg2
    have hLl : L.length = k := by rw [hL]; simp; omega
    have HG1 := Nu.hid hg1
    have HG2 := Nu.hid hg2
    have HL := Nu.hid hL
    have HROW := Nu.hid hrow
    have HB := Nu.hid hb
    have HLL := Nu.hid hLl
    have hs0 : w.heap.size ≤ wr.heap.size := hb.size
    clear hg1 hg2 hL hLl
    by_cases hlt : k < es.length
    · have hlti : (k : Int) < (es.length : Int) := by omega
      have hk0 : (0 : Int) ≤ (k : Int) := by omega
      obtain ⟨p, hp⟩ : ∃ p, es[k]? = some p := ⟨_, List.getElem?_eq_getElem hlt⟩
      obtain ⟨b, o, rfl, c0, c1⟩ := (HE.out.later hb) k p hp
      have hbl : b < wr.heap.size := block_lt_of_cell c0
      have HSN : Hid (es.take (k + 1) = L ++ [p]) := by
        show es.take (k + 1) = L ++ [p]
        rw [HL.out]
        exact Si.take_snoc hp
      clear hp hb hrow
      go_wp2_with (at_builtin; refine wpList_append_own _ rfl _ _ 22 rfl (w.heap.size + 2) 28 i0 (.agg #[.int .i64 0, .int .i64 0]) 2 16 Try.underlying22 hi hz0 hz1 hz2 rfl (by decide) _ _ _ rfl (World.ownsRow.alloc HROW.out _) ⟨wr.heap.size, 0, none⟩ 1 1 [.int .i64 p.1, .int .i64 p.2] rfl rfl (new_two_e _ _ rfl _ _ _) (by simp [Value.oneCell']) (by rw [HLL.out]; unfold maxLen; omega) (by rw [HLL.out]; omega) (by simp; omega) ?_; refine Hid.out ?_)
      refine Nu.hid ?_
      intro v' w3 hrow3 hg3 _
      have HROW3 : Hid (OwnE w3 (w.heap.size + 2) v' (L ++ [p])) := by
        unfold OwnE
        rw [flatE_snoc, List.length_append]
        exact hrow3
      have HG13 := Nu.hid ((hg3.block _ (by simp; omega) (fun h => HROW.out.far (by omega) h.symm)).trans ((Below.heap_alloc _ _ _ hs1).trans HG1.out))
      have HG23 := Nu.hid ((hg3.block _ (by simp; omega) (fun h => HROW.out.far (by omega) h.symm)).trans ((Below.heap_alloc _ _ _ hs2).trans HG2.out))
      have HB3 := Nu.hid ((HB.out.alloc hs0 _).grown hg3 (by simp; omega) (fun j hj => by have := (World.ownsRow.lt HROW.out j hj).1; omega))
      clear hrow3 hg3
      go_wp2
      go_roundw
      case rel => exact ⟨k + 1, _, by omega, by go_num, HSN.out.symm, HROW3.out, HG13.out, HG23.out, HB3.out⟩
      case measure => simp [intOf]; omega
    · have hd : ¬ ((k : Int) < (es.length : Int)) := by omega
      have hLe : L = es := by
        rw [HL.out]
        exact List.take_of_length_le (by omega)
      have HLE := Nu.hid hLe
      clear hLe hb hrow
      obtain ⟨ao', cap', rfl, _, _, _, hx⟩ := HROW.out.form
      have HX := Nu.hid hx
      clear hx
      go_wp2
      have hgr := pair_set HG2.out (.int .i64 n) (.slice ao' L.length cap')
      obtain ⟨r0, r1, -⟩ := pair_cells hgr
      refine bodyPost_ret (v := .agg #[.int .i64 n, .slice ao' L.length cap']) (by simp [results, Try.results5, go_sem, r0, r1]) rfl ?_
      refine ⟨_, rfl, ?_, (HB.out.setCell (by simp) _).setCell (by simp) _⟩
      rw [← HLE.out]
      exact HROW.out.set2 (by omega) _ _

end Go.Proofs.Ytdhaaodalchpkab
